/-
  Get of a route error: the program's and the document's. Condition: at most 200000 bytes.
-/
import Derived.Test.YtlelfapmleopaaaY3
import Derived.Test.YtlelfapmleopaaaP5
namespace Go.Proofs.Ytlelfapmleopaaa.Y4
open Go.ChangeShapes Go.WideShapes Go.ChangeAt Go.RowKit
open Go.Proofs.Ytlelfapmleopaaa.Ms
open Go.Proofs.Ytlelfapmleopaaa.Box
open Go.Proofs.Ytlelfapmleopaaa.Xv
open Go.Proofs.Ytlelfapmleopaaa.Xc (idx sl_m sl_l)
open Go.Proofs.Ytlelfapmleopaaa.Am
open Go.Proofs.Ytlelfapmleopaaa.Y1
open Go.Proofs.Ytlelfapmleopaaa.Y3
open Go.Proofs.Ytlelfapmleopaaa.Hs
open Go.Proofs.Ytlelfapmleopaaa.Hy
open Go.Proofs.Ytlelfapmleopaaa.Hx (conv8 ex_built)
open Go.Proofs.Ytlelfapmleopaaa.Nu
open Go.Proofs.Ytlelfapmleopaaa.Cur (numL)
open Go.Proofs.Ytlelfapmleopaaa.Ds (cellsD)
open Go.Proofs.Ytlelfapmleopaaa.Bk (wpList_builtK alloc_size)
set_option linter.unusedVariables false
set_option maxRecDepth 100000
set_option maxRecDepth 100000
theorem sub_cell {B : Nat} {w : World} {v : Value} {l : List El} (h : Sx.Lst B w v l) {p : Addr} (hp : p.block < B) (x : Value) : Sx.Lst B (w.setCell p x) v l := by
  refine ⟨h.1, ?_⟩
  rcases h.2 with h | ⟨g, cap, cur, a, b, c, d⟩
  · exact .inl h
  · exact .inr ⟨g, cap, cur, a, b, (heap_setCell_other w p g x (by omega)).trans c, d⟩
theorem ext_most (s : ByteArray) (n : Nat) (hs : s.size ≤ 200000) {l : List El} {i e : Int} (h : outX (s.extract n s.size) = (l, i, e)) : 0 ≤ i ∧ i ≤ 200000 := by
  rcases Xv.out_cases (s.extract n s.size) with ⟨l', h1, h2, h3⟩ | ⟨l', r, h1, h2, h3, h4, h5⟩
  · rw [h3] at h
    simp only [Prod.mk.injEq] at h
    omega
  · rw [h5] at h
    have := congrArg List.length h2
    rw [List.length_append, size_list] at this
    simp at this
    simp only [Prod.mk.injEq] at h
    omega
theorem dests_part (n : Nat) (l : List UInt8) (h : 8 * n ≤ l.length) : dests n (l.take (8 * n)) = dests n l := by
  have := dests_take n (l.take (8 * n)) (l.drop (8 * n)) (by simp; omega)
  rw [List.take_append_drop] at this
  exact this.symm
theorem list_at (s : ByteArray) (w : World) (h : ¬ s.size < 4 + 8 * cnt s) :
    Calls Try.prog 60 #[.string (s.extract 4 (4 + 8 * cnt s))] w fun e w' => ∃ a c, e = .returned (.slice a (dests (cnt s) (s.data.toList.drop 4)).length c) ∧ Ds.Lst w.heap.size w' (.slice a (dests (cnt s) (s.data.toList.drop 4)).length c) (dests (cnt s) (s.data.toList.drop 4)) ∧ Below w.heap.size w w' := by
  have hc := cnt_lt s
  have := list_any (s.extract 4 (4 + 8 * cnt s)) (cnt s) w (by simp; omega) (by omega)
  rw [ext_list, Nat.add_sub_cancel_left, dests_part _ _ (by rw [List.length_drop, size_list]; omega)] at this
  rw [dests_len]
  exact this
set_option maxHeartbeats 3200000 in
theorem get_any (s : ByteArray) (w : World) (hs : s.size ≤ 200000) : Calls Try.prog 35 #[.string s] w (AnsM (outE s) w) := by
  have PC := Lib.hid (fun V => check_any s V (by omega))
  rcases head_cases s with ⟨i, x, h, he, hi0, hi⟩ | ⟨r, n, h, hn, hns, hr, hn4, k1, k2, k3, -⟩
  · have HY := Lib.hid (out_bad h he)
    rw [chk_bad h he] at PC
    clear h hi0 hi hs
    go_enter Try.func35, Try.ntmps35
    go_upto_region 1 with fail
    change Code.wp _ _ _ _ (w.alloc (.cells M.zero.cells 34))
    have R0 := Lib.hid (Bx.new w M.zero)
    have bel := Lib.hid (balloc (Below.refl _ w) (.cells M.zero.cells 34))
    have hz := alloc_size w (.cells M.zero.cells 34)
    generalize w.alloc (.cells M.zero.cells 34) = W at *
    go_wp2_with fail
    refine (PC.out _).mono ?_
    rintro e W ⟨rfl, rfl⟩
    go_wp2_with (first | (refine wpList_builtK rfl 34 _ rfl (M.cells M.zero) (by kernel_rfl) ?_) | (refine wpList_storeM (b := w.heap.size) (m := M.zero) (m' := M.zero) rfl _ _ rfl rfl rfl R0.out ?_))
    exact bodyPost_ret (v := .tuple #[.agg M.zero.cells, .int .i64 i, .int .i64 x]) (ret3 rfl _ _ w.heap.size M.zero rfl (R0.out.put (m' := M.zero)) (.int .i64 i) rfl (.int .i64 x) rfl) rfl (AnsM.no HY.out (below_setRow bel.out (Nat.le_refl _) _))
  rw [chk_yes h] at PC
  have PE := Lib.hid (fun V => end_any s V k1)
  rw [← hn4] at PE
  have PG := Lib.hid (fun V => Xc.get_own (s.extract n s.size) V (by simp; omega))
  have PL := Lib.hid (fun V => list_at s V (by omega))
  rw [← hn4] at PL
  have sl := sl_l s (n : Int) n s.size rfl hns rfl
  have sm := sl_m s 4 (n : Int) 4 n rfl rfl (by omega) hns
  have i1 := idx s 1 1 rfl (by omega)
  have n1 := bt_nn s 1
  have l1 := bt_lt s 1
  have v1 := conv8 (bt s 1 / 128) (by omega) (by omega)
  have HR := Lib.hid (show hdM s = ({ M.zero with kind := 5, flags := bt s 1 / 128, ll := dests (cnt s) (s.data.toList.drop 4) } : M) from rfl)
  obtain ⟨⟨l, i, x⟩, hX⟩ : ∃ p, outX (s.extract n s.size) = p := ⟨_, rfl⟩
  obtain ⟨hi0, hi⟩ := ext_most s n hs hX
  rw [hX] at PG
  have hn : (n : Int) ≤ 2044 := by omega
  have hn0 : 0 ≤ (n : Int) := by omega
  by_cases hx : x = 0
  rotate_left
  · have HY := Lib.hid (out_ext h hX hx)
    clear h hX hs hns hr hn4 k1 k2 k3 sm i1 n1 l1 v1 HR PL
    generalize s.extract n s.size = t at *
    generalize (n : Int) = ni at *
    go_enter Try.func35, Try.ntmps35
    go_upto_region 1 with fail
    change Code.wp _ _ _ _ (w.alloc (.cells M.zero.cells 34))
    have R0 := Lib.hid (Bx.new w M.zero)
    have bel := Lib.hid (balloc (Below.refl _ w) (.cells M.zero.cells 34))
    have hz := alloc_size w (.cells M.zero.cells 34)
    generalize w.alloc (.cells M.zero.cells 34) = W at *
    go_wp2_with fail
    refine (PC.out _).mono ?_
    rintro e W ⟨rfl, rfl⟩
    go_wp2_with fail
    refine (PE.out _).mono ?_
    rintro e W ⟨rfl, rfl⟩
    go_wp2_with fail
    refine (PG.out _).mono ?_
    rintro e w1 ⟨a, c, rfl, hr, hb⟩
    have R1 := Lib.hid (R0.out.below hb)
    have bel1 := Lib.hid (bcall bel.out hb)
    clear hb R0 bel hr PG sl
    go_wp2_with (first | (refine wpList_builtK rfl 34 _ rfl (M.cells M.zero) (by kernel_rfl) ?_) | (refine wpList_storeM (b := w.heap.size) (m := M.zero) (m' := M.zero) rfl _ _ rfl rfl rfl R1.out ?_))
    exact bodyPost_ret (v := .tuple #[.agg M.zero.cells, .int .i64 (ni + i), .int .i64 x]) (ret3 rfl _ _ w.heap.size M.zero rfl (R1.out.put (m' := M.zero)) (.int .i64 (ni + i)) rfl (.int .i64 x) rfl) rfl (AnsM.no HY.out (below_setRow bel1.out (Nat.le_refl _) _))
  subst hx
  have HY := Lib.hid (out_yes h hX)
  rw [hr, HR.out] at HY
  clear h hX hs hns hr hn4 k1 k2 k3 HR hi hi0
  generalize dests (cnt s) (s.data.toList.drop 4) = ld at *
  generalize s.extract n s.size = t at *
  generalize s.extract 4 n = t1 at *
  generalize (n : Int) = ni at *
  generalize bt s 1 = y at *
  go_enter Try.func35, Try.ntmps35
  go_upto_region 1 with fail
  change Code.wp _ _ _ _ (w.alloc (.cells M.zero.cells 34))
  have R0 := Lib.hid (Bx.new w M.zero)
  have bel := Lib.hid (balloc (Below.refl _ w) (.cells M.zero.cells 34))
  have hz := alloc_size w (.cells M.zero.cells 34)
  generalize w.alloc (.cells M.zero.cells 34) = W at *
  go_wp2_with fail
  refine (PC.out _).mono ?_
  rintro e W ⟨rfl, rfl⟩
  go_wp2_with fail
  refine (PE.out _).mono ?_
  rintro e W ⟨rfl, rfl⟩
  go_wp2_with fail
  refine (PG.out _).mono ?_
  rintro e w1 ⟨a, c, rfl, hr, hb⟩
  have R1 := Lib.hid (R0.out.below hb)
  have bel1 := Lib.hid (bcall bel.out hb)
  have HL := Lib.hid hr
  have hw1 : w.heap.size < w1.heap.size := R1.out.lt
  have hwW : w.heap.size < W.heap.size := R0.out.lt
  clear hb hr R0 bel PG sl
  go_upto_region 9 with fail
  go_wp2_with fail
  refine (PL.out _).mono ?_
  rintro e w2 ⟨d, f, rfl, hr, hb⟩
  have R2 := Lib.hid (R1.out.below hb)
  have bel2 := Lib.hid (bcall bel1.out hb)
  have HL := Lib.hid (HL.out.below hb)
  have HD := Lib.hid hr
  clear hb hr R1 bel1 PL sm i1 v1
  go_wp2_with (first | (refine wpList_builtK rfl 34 _ rfl (M.cells { M.zero with kind := 5, flags := y / 128, la := d, ll := ld, lc := f, sa := a, sl := l, sc := c }) (by kernel_rfl) ?_) | (refine wpList_storeM (b := w.heap.size) (m := M.zero) (m' := { M.zero with kind := 5, flags := y / 128, la := d, ll := ld, lc := f, sa := a, sl := l, sc := c }) rfl _ _ rfl rfl rfl R2.out ?_))
  exact bodyPost_ret (v := .tuple #[.agg (M.cells { M.zero with kind := 5, flags := y / 128, la := d, ll := ld, lc := f, sa := a, sl := l, sc := c }), .int .i64 0, .int .i64 0]) (ret3 rfl _ _ w.heap.size { M.zero with kind := 5, flags := y / 128, la := d, ll := ld, lc := f, sa := a, sl := l, sc := c } rfl (R2.out.put (m' := { M.zero with kind := 5, flags := y / 128, la := d, ll := ld, lc := f, sa := a, sl := l, sc := c })) (.int .i64 0) rfl (.int .i64 0) rfl) rfl (AnsM.both (r := { M.zero with kind := 5, flags := y / 128, ll := ld }) HY.out (Ds.lst_under HD.out hw1 _) (Nat.le_of_lt hw1) (lst_under HL.out hwW _) (Nat.le_of_lt hwW) (below_setRow bel2.out (Nat.le_refl _) _))
/-- The destination in its place. -/
theorem one_at (s : ByteArray) (k : Nat) : one ((s.data.toList.drop 4).drop (8 * k)) = (s.extract (4 + 8 * k) (8 + 8 * k), ((numL ((s.data.toList.drop (8 + 8 * k)).take 4) : Nat) : Int)) := by
  unfold one
  rw [List.drop_drop, List.drop_drop, text_eq (a := s.extract (4 + 8 * k) (8 + 8 * k)) (b := ⟨((s.data.toList.drop (4 + 8 * k)).take 4).toArray⟩) (by rw [ext_list, show 8 + 8 * k - (4 + 8 * k) = 4 by omega]), show 4 + 8 * k + 4 = 8 + 8 * k by omega]
theorem rnum8 (s : ByteArray) (k : Nat) (w : World) : Calls Try.prog 62 #[.string (s.extract (8 + 8 * k) (12 + 8 * k))] w fun e w' => e = .returned (.int .i64 (numL ((s.data.toList.drop (8 + 8 * k)).take 4))) ∧ w' = w := by
  have := rnum_ext s (8 + 8 * k) (12 + 8 * k) w (by omega)
  rw [show 12 + 8 * k - (8 + 8 * k) = 4 by omega] at this
  exact this
set_option maxHeartbeats 6400000 in
theorem rget_any (s : ByteArray) (w : World) (hs : s.size ≤ 200000) : Calls Try.prog 37 #[.string s] w (AnsM (outE s) w) := by
  have hm : (s.size : Int) ≤ 200000 := by omega
  by_cases h : s.size < 4
  · have HY := Lib.hid (out_bad (head_short h) (by decide))
    go_enter Try.func37, Try.ntmps37
    go_upto_region 1 with fail
    change Code.wp _ _ _ _ (w.alloc (.cells M.zero.cells 34))
    have R0 := Lib.hid (Bx.new w M.zero)
    have bel := Lib.hid (balloc (Below.refl _ w) (.cells M.zero.cells 34))
    have hz := alloc_size w (.cells M.zero.cells 34)
    generalize w.alloc (.cells M.zero.cells 34) = W at *
    go_wp2_with (first | (refine wpList_builtK rfl 34 _ rfl (M.cells M.zero) (by kernel_rfl) ?_) | (refine wpList_storeM (b := w.heap.size) (m := M.zero) (m' := M.zero) rfl _ _ rfl rfl rfl R0.out ?_))
    exact bodyPost_ret (v := .tuple #[.agg M.zero.cells, .int .i64 (s.size : Int), .int .i64 2]) (ret3 rfl _ _ w.heap.size M.zero rfl (R0.out.put (m' := M.zero)) (.int .i64 (s.size : Int)) rfl (.int .i64 2) rfl) rfl (AnsM.no HY.out (below_setRow bel.out (Nat.le_refl _) _))
  have i1 := idx s 1 1 rfl (by omega)
  have i2 := idx s 2 2 rfl (by omega)
  have i3 := idx s 3 3 rfl (by omega)
  have n1 := bt_nn s 1
  have l1 := bt_lt s 1
  have n2 := bt_nn s 2
  have l2 := bt_lt s 2
  by_cases k1 : bt s 1 % 128 = 0
  rotate_left
  · have HY := Lib.hid (out_bad (head_bits h (.inl k1)) (by decide))
    generalize bt s 1 = x at *
    clear i2 i3 n2 l2
    go_enter Try.func37, Try.ntmps37
    go_upto_region 1 with fail
    change Code.wp _ _ _ _ (w.alloc (.cells M.zero.cells 34))
    have R0 := Lib.hid (Bx.new w M.zero)
    have bel := Lib.hid (balloc (Below.refl _ w) (.cells M.zero.cells 34))
    have hz := alloc_size w (.cells M.zero.cells 34)
    generalize w.alloc (.cells M.zero.cells 34) = W at *
    go_wp2_with (first | (refine wpList_builtK rfl 34 _ rfl (M.cells M.zero) (by kernel_rfl) ?_) | (refine wpList_storeM (b := w.heap.size) (m := M.zero) (m' := M.zero) rfl _ _ rfl rfl rfl R0.out ?_))
    exact bodyPost_ret (v := .tuple #[.agg M.zero.cells, .int .i64 1, .int .i64 5]) (ret3 rfl _ _ w.heap.size M.zero rfl (R0.out.put (m' := M.zero)) (.int .i64 1) rfl (.int .i64 5) rfl) rfl (AnsM.no HY.out (below_setRow bel.out (Nat.le_refl _) _))
  by_cases k2 : bt s 2 = 0
  rotate_left
  · have HY := Lib.hid (out_bad (head_bits h (.inr k2)) (by decide))
    generalize bt s 1 = x at *
    generalize bt s 2 = y at *
    clear i3
    go_enter Try.func37, Try.ntmps37
    go_upto_region 1 with fail
    change Code.wp _ _ _ _ (w.alloc (.cells M.zero.cells 34))
    have R0 := Lib.hid (Bx.new w M.zero)
    have bel := Lib.hid (balloc (Below.refl _ w) (.cells M.zero.cells 34))
    have hz := alloc_size w (.cells M.zero.cells 34)
    generalize w.alloc (.cells M.zero.cells 34) = W at *
    go_wp2_with (first | (refine wpList_builtK rfl 34 _ rfl (M.cells M.zero) (by kernel_rfl) ?_) | (refine wpList_storeM (b := w.heap.size) (m := M.zero) (m' := M.zero) rfl _ _ rfl rfl rfl R0.out ?_))
    exact bodyPost_ret (v := .tuple #[.agg M.zero.cells, .int .i64 1, .int .i64 5]) (ret3 rfl _ _ w.heap.size M.zero rfl (R0.out.put (m' := M.zero)) (.int .i64 1) rfl (.int .i64 5) rfl) rfl (AnsM.no HY.out (below_setRow bel.out (Nat.le_refl _) _))
  have hb : ¬ bad s := by unfold bad; omega
  have hc := cnt_bt s
  have hc2 := cnt_lt s
  have v3 := conv8 (bt s 3) (bt_nn s 3) (bt_lt s 3)
  rw [k2] at i2
  rw [hc] at i3 v3
  clear k2 n2 l2 hc
  by_cases k3 : cnt s = 0
  · have HY := Lib.hid (out_bad (head_none h hb k3) (by decide))
    rw [k3] at i3 v3
    generalize bt s 1 = x at *
    go_enter Try.func37, Try.ntmps37
    go_upto_region 1 with fail
    change Code.wp _ _ _ _ (w.alloc (.cells M.zero.cells 34))
    have R0 := Lib.hid (Bx.new w M.zero)
    have bel := Lib.hid (balloc (Below.refl _ w) (.cells M.zero.cells 34))
    have hz := alloc_size w (.cells M.zero.cells 34)
    generalize w.alloc (.cells M.zero.cells 34) = W at *
    go_wp2_with (first | (refine wpList_builtK rfl 34 _ rfl (M.cells M.zero) (by kernel_rfl) ?_) | (refine wpList_storeM (b := w.heap.size) (m := M.zero) (m' := M.zero) rfl _ _ rfl rfl rfl R0.out ?_))
    exact bodyPost_ret (v := .tuple #[.agg M.zero.cells, .int .i64 3, .int .i64 8]) (ret3 rfl _ _ w.heap.size M.zero rfl (R0.out.put (m' := M.zero)) (.int .i64 3) rfl (.int .i64 8) rfl) rfl (AnsM.no HY.out (below_setRow bel.out (Nat.le_refl _) _))
  by_cases k4 : s.size < 4 + 8 * cnt s
  · have HY := Lib.hid (out_bad (head_few h hb k3 k4) (by decide))
    generalize bt s 1 = x at *
    have k5 : ¬ (cnt s : Int) = 0 := by omega
    have k6 : (s.size : Int) < 4 + 8 * (cnt s : Int) := by omega
    have k7 : (cnt s : Int) < 256 := by omega
    have k8 : 0 ≤ (cnt s : Int) := by omega
    clear k3 k4 hb hc2
    generalize (cnt s : Int) = n at *
    go_enter Try.func37, Try.ntmps37
    go_upto_region 1 with fail
    change Code.wp _ _ _ _ (w.alloc (.cells M.zero.cells 34))
    have R0 := Lib.hid (Bx.new w M.zero)
    have bel := Lib.hid (balloc (Below.refl _ w) (.cells M.zero.cells 34))
    have hz := alloc_size w (.cells M.zero.cells 34)
    generalize w.alloc (.cells M.zero.cells 34) = W at *
    go_wp2_with (first | (refine wpList_builtK rfl 34 _ rfl (M.cells M.zero) (by kernel_rfl) ?_) | (refine wpList_storeM (b := w.heap.size) (m := M.zero) (m' := M.zero) rfl _ _ rfl rfl rfl R0.out ?_))
    exact bodyPost_ret (v := .tuple #[.agg M.zero.cells, .int .i64 (s.size : Int), .int .i64 2]) (ret3 rfl _ _ w.heap.size M.zero rfl (R0.out.put (m' := M.zero)) (.int .i64 (s.size : Int)) rfl (.int .i64 2) rfl) rfl (AnsM.no HY.out (below_setRow bel.out (Nat.le_refl _) _))
  have hh := head_yes h hb k3 k4
  have PG := Lib.hid (fun V => Xc.rget_own (s.extract (4 + 8 * cnt s) s.size) V (by simp; omega))
  have sl := sl_l s (4 + 8 * (cnt s : Int)) (4 + 8 * cnt s) s.size (by push_cast; rfl) (by omega) rfl
  obtain ⟨⟨l, i, x⟩, hX⟩ : ∃ p, outX (s.extract (4 + 8 * cnt s) s.size) = p := ⟨_, rfl⟩
  obtain ⟨hi0, hi⟩ := ext_most s _ hs hX
  rw [hX] at PG
  have k5 : ¬ (cnt s : Int) = 0 := by omega
  have k6 : ¬ (s.size : Int) < 4 + 8 * (cnt s : Int) := by omega
  have k7 : (cnt s : Int) < 256 := by omega
  have k8 : 0 ≤ (cnt s : Int) := by omega
  have HS := Lib.hid (show 4 + 8 * cnt s ≤ s.size by omega)
  have v1 := conv8 (bt s 1) n1 l1
  have HR := Lib.hid (show hdM s = ({ M.zero with kind := 5, flags := bt s 1 / 128, ll := dests (cnt s) (s.data.toList.drop 4) } : M) from rfl)
  have HO1 := Lib.hid (fun k => one_at s k)
  have HO2 := Lib.hid (fun k => dests_snoc k (s.data.toList.drop 4))
  have HO3 := Lib.hid (fun k V => rnum8 s k V)
  have HO4 := Lib.hid (fun k => dests_len k (s.data.toList.drop 4))
  have HN := Lib.hid (show cnt s < 256 from hc2)
  have HY1 := Lib.hid (fun (hx : x ≠ 0) => out_ext hh hX hx)
  have HY2 := Lib.hid (fun (hx : x = 0) => out_yes hh (by rw [← hx]; exact hX))
  clear h hb k3 k4 hh hX hs hc2
  generalize hcs : cnt s = n at *
  generalize s.extract (4 + 8 * n) s.size = t at *
  generalize s.data.toList.drop 4 = T at *
  generalize bt s 1 = y at *
  clear hcs
  go_enter Try.func37, Try.ntmps37
  go_upto_region 1 with fail
  change Code.wp _ _ _ _ (w.alloc (.cells M.zero.cells 34))
  have R0 := Lib.hid (Bx.new w M.zero)
  have bel := Lib.hid (balloc (Below.refl _ w) (.cells M.zero.cells 34))
  have hz := alloc_size w (.cells M.zero.cells 34)
  generalize w.alloc (.cells M.zero.cells 34) = W at *
  clear hz
  go_upto_region 11 with (first | (refine wpList_builtK rfl 34 _ rfl (M.cells { M.zero with kind := 5, flags := y / 128 }) (by kernel_rfl) ?_) | (refine wpList_storeM (b := W.heap.size) (m := M.zero) (m' := { M.zero with kind := 5, flags := y / 128 }) rfl _ _ rfl rfl rfl (Bx.new W M.zero) ?_))
  change Code.wp _ _ _ _ ((W.alloc (.cells M.zero.cells 34)).setRow W.heap.size (M.cells { M.zero with kind := 5, flags := y / 128 }))
  rw [World.setRow_alloc_new]
  have HX0 := Lib.hid (Bx.new W { M.zero with kind := 5, flags := y / 128 })
  have R1 := Lib.hid (R0.out.old (.cells (M.cells { M.zero with kind := 5, flags := y / 128 }) 34))
  have bel1 := Lib.hid (balloc bel.out (.cells (M.cells { M.zero with kind := 5, flags := y / 128 }) 34))
  have hg : W.heap.size < (W.alloc (.cells (M.cells { M.zero with kind := 5, flags := y / 128 }) 34)).heap.size := HX0.out.lt
  have hR : w.heap.size < W.heap.size := R0.out.lt
  clear R0 bel v1 i1 i2 i3 v3
  generalize W.alloc (.cells (M.cells { M.zero with kind := 5, flags := y / 128 }) 34) = V at *
  generalize W.heap.size = g at *
  go_wp2
  go_loopw [7] (fun i wr => ∃ (k : Nat) (a0 : Option Addr) (c0 : Nat), k ≤ n ∧ i = .int .i64 (k : Int) ∧ Hid (Bx wr g { M.zero with kind := 5, flags := y / 128, la := a0, ll := dests k T, lc := c0 }) ∧ Hid (Ds.Lst V.heap.size wr (.slice a0 (dests k T).length c0) (dests k T)) ∧ Hid (Bx wr w.heap.size M.zero) ∧ Hid (Below w.heap.size w wr) ∧ Hid (V.heap.size ≤ wr.heap.size)) (fun i _ => n - (intOf i).toNat)
  case atStart => exact ⟨0, none, 0, Nat.zero_le _, rfl, HX0, Lib.hid (Ds.Lst.nil _ _), R1, bel1, Lib.hid (Nat.le_refl _)⟩
  case round =>
    obtain ⟨k, a0, c0, hk, rfl, HX, HL, HR0, HB, HV⟩ := hrel
    clear HX0 R1 bel1
    by_cases hlt : k < n
    · have hkn : (k : Int) < (n : Int) := by omega
      have hk0 : 0 ≤ (k : Int) := by omega
      have s1 := sl_m s (4 + 8 * (k : Int)) (8 + 8 * (k : Int)) (4 + 8 * k) (8 + 8 * k) (by push_cast; rfl) (by push_cast; rfl) (by omega) (by have := HS.out; omega)
      have s2 := sl_m s (8 + 8 * (k : Int)) (12 + 8 * (k : Int)) (8 + 8 * k) (12 + 8 * k) (by push_cast; rfl) (by push_cast; rfl) (by omega) (by have := HS.out; omega)
      have PN := Lib.hid (HO3.out k)
      have HD : Hid (dests (k + 1) T = dests k T ++ [(s.extract (4 + 8 * k) (8 + 8 * k), ((numL ((s.data.toList.drop (8 + 8 * k)).take 4) : Nat) : Int))]) := Lib.hid (by rw [HO2.out k, HO1.out k])
      have HC : Hid ((dests k T).length ≤ 100000) := Lib.hid (by rw [HO4.out k]; have := HN.out; omega)
      generalize s.extract (4 + 8 * k) (8 + 8 * k) = e1 at *
      generalize s.extract (8 + 8 * k) (12 + 8 * k) = e2 at *
      generalize ((numL ((s.data.toList.drop (8 + 8 * k)).take 4) : Nat) : Int) = e3 at *
      generalize dests k T = lk at *
      have q1 : IntKind.i64.wrap (8 * (k : Int)) = 8 * (k : Int) := IntWalk.i64_in _ (by omega)
      have q2 : IntKind.i64.wrap (4 + 8 * (k : Int)) = 4 + 8 * (k : Int) := IntWalk.i64_in _ (by omega)
      have q3 : IntKind.i64.wrap (8 + 8 * (k : Int)) = 8 + 8 * (k : Int) := IntWalk.i64_in _ (by omega)
      have q4 : IntKind.i64.wrap (12 + 8 * (k : Int)) = 12 + 8 * (k : Int) := IntWalk.i64_in _ (by omega)
      have q5 : wrap64 (8 * (k : Int)) = 8 * (k : Int) := IntWalk.wrap64_in _ (by omega)
      have q6 : wrap64 (4 + 8 * (k : Int)) = 4 + 8 * (k : Int) := IntWalk.wrap64_in _ (by omega)
      have q7 : wrap64 (8 + 8 * (k : Int)) = 8 + 8 * (k : Int) := IntWalk.wrap64_in _ (by omega)
      have q8 : wrap64 (12 + 8 * (k : Int)) = 12 + 8 * (k : Int) := IntWalk.wrap64_in _ (by omega)
      go_upto_region 14 with fail
      refine wp_region_held_drew (S := fun _ => True) (by kernel_rfl) trivial (fun hS => ?_)
      have HL := Lib.hid (show Ds.Lst V.heap.size wr.drew (.slice a0 lk.length c0) lk from HL.out)
      have HB := Lib.hid HB.out.drew
      have HX := Lib.hid (show Bx wr.drew g { M.zero with kind := 5, flags := y / 128, la := a0, ll := lk, lc := c0 } from HX.out)
      have HR0 := Lib.hid (show Bx wr.drew w.heap.size M.zero from HR0.out)
      have HV := Lib.hid (show V.heap.size ≤ wr.drew.heap.size from HV.out)
      generalize wr.drew = X0 at *
      refine H.tk (i := 0) (v := ?v0x1) ?h0x1 hS ?_
      case h0x1 => (intro w hw; go_simp; first | done | (with_reducible rfl))
      try simp only [Act.put, List.setIfInBounds_toArray, List.set_cons_zero, List.set_cons_succ]
      refine H.tk (i := 2) (v := ?v2x2) ?h2x2 hS ?_
      case h2x2 => (intro w hw; go_simp; first | done | (with_reducible rfl))
      try simp only [Act.put, List.setIfInBounds_toArray, List.set_cons_zero, List.set_cons_succ]
      refine H.tk (i := 3) (v := ?v3x3) ?h3x3 hS ?_
      case h3x3 => (intro w hw; go_simp; first | done | (with_reducible rfl))
      try simp only [Act.put, List.setIfInBounds_toArray, List.set_cons_zero, List.set_cons_succ]
      refine H.tk (i := 4) (v := ?v4x4) ?h4x4 hS ?_
      case h4x4 => (intro w hw; go_simp; first | done | (with_reducible rfl))
      try simp only [Act.put, List.setIfInBounds_toArray, List.set_cons_zero, List.set_cons_succ]
      refine H.tk (i := 5) (v := ?v5x5) ?h5x5 hS ?_
      case h5x5 => (intro w hw; go_simp; first | done | (with_reducible rfl))
      try simp only [Act.put, List.setIfInBounds_toArray, List.set_cons_zero, List.set_cons_succ]
      refine H.tk (i := 6) (v := ?v6x6) ?h6x6 hS ?_
      case h6x6 => (intro w hw; go_simp; first | done | (with_reducible rfl))
      try simp only [Act.put, List.setIfInBounds_toArray, List.set_cons_zero, List.set_cons_succ]
      refine H.tk (i := 7) (v := ?v7x7) ?h7x7 hS ?_
      case h7x7 => (intro w hw; go_simp; first | done | (with_reducible rfl))
      try simp only [Act.put, List.setIfInBounds_toArray, List.set_cons_zero, List.set_cons_succ]
      refine H.tk (i := 8) (v := ?v8x8) ?h8x8 hS ?_
      case h8x8 => (intro w hw; go_simp; first | done | (with_reducible rfl))
      try simp only [Act.put, List.setIfInBounds_toArray, List.set_cons_zero, List.set_cons_succ]
      refine H.tk (i := 9) (v := ?v9x9) ?h9x9 hS ?_
      case h9x9 => (intro w hw; go_simp; first | done | (with_reducible rfl))
      try simp only [Act.put, List.setIfInBounds_toArray, List.set_cons_zero, List.set_cons_succ]
      refine H.tk (i := 10) (v := ?v10x10) ?h10x10 hS ?_
      case h10x10 => (intro w hw; go_simp; first | done | (with_reducible rfl))
      try simp only [Act.put, List.setIfInBounds_toArray, List.set_cons_zero, List.set_cons_succ]
      refine H.tk (i := 11) (v := ?v11x11) ?h11x11 hS ?_
      case h11x11 => (intro w hw; go_simp; first | done | (with_reducible rfl))
      try simp only [Act.put, List.setIfInBounds_toArray, List.set_cons_zero, List.set_cons_succ]
      refine H.tk (i := 12) (v := ?v12x12) ?h12x12 hS ?_
      case h12x12 => (intro w hw; go_simp; first | done | (with_reducible rfl))
      try simp only [Act.put, List.setIfInBounds_toArray, List.set_cons_zero, List.set_cons_succ]
      refine H.tk (i := 13) (v := ?v13x13) ?h13x13 hS ?_
      case h13x13 => (intro w hw; go_simp; first | done | (with_reducible rfl))
      try simp only [Act.put, List.setIfInBounds_toArray, List.set_cons_zero, List.set_cons_succ]
      refine H.tk (i := 14) (v := ?v14x14) ?h14x14 hS ?_
      case h14x14 => (intro w hw; go_simp; first | done | (with_reducible rfl))
      try simp only [Act.put, List.setIfInBounds_toArray, List.set_cons_zero, List.set_cons_succ]
      refine H.tk (i := 15) (v := ?v15x15) ?h15x15 hS ?_
      case h15x15 => (intro w hw; go_simp; first | done | (with_reducible rfl))
      try simp only [Act.put, List.setIfInBounds_toArray, List.set_cons_zero, List.set_cons_succ]
      refine H.tk (i := 16) (v := ?v16x16) ?h16x16 hS ?_
      case h16x16 => (intro w hw; go_simp; first | done | (with_reducible rfl))
      try simp only [Act.put, List.setIfInBounds_toArray, List.set_cons_zero, List.set_cons_succ]
      refine H.tk (i := 17) (v := ?v17x17) ?h17x17 hS ?_
      case h17x17 => (intro w hw; go_simp; first | done | (with_reducible rfl))
      try simp only [Act.put, List.setIfInBounds_toArray, List.set_cons_zero, List.set_cons_succ]
      refine H.two (i := 1) (j := 18) (by simp only [List.getElem?_toArray, List.getElem?_cons_succ, List.getElem?_cons_zero]; rfl) (by kernel_rfl) (by simp only [List.getElem?_toArray, List.getElem?_cons_succ, List.getElem?_cons_zero]; rfl) (by kernel_rfl) (by kernel_rfl) (fun K hK => ?wa18) (fun K hK => ?wb18)
      case wa18 =>
        refine wp_valW (v := .slice a0 lk.length c0) (w' := X0) rfl (by have c := HX.out.cs.c21; go_simp) ?_
        refine hK.out _ _ trivial ?_
        clear hK K
        try simp only [Act.put, List.setIfInBounds_toArray, List.set_cons_zero, List.set_cons_succ]
        refine H.one (i := 18) (by simp only [List.getElem?_toArray, List.getElem?_cons_succ, List.getElem?_cons_zero]; rfl) (by kernel_rfl) (by kernel_rfl) (fun K hK => ?_)
        go_simp
        refine (PN.out _).mono ?_
        rintro e X0 ⟨rfl, rfl⟩
        refine hK.out _ _ trivial ?_
        clear hK K
        try simp only [Act.put, List.setIfInBounds_toArray, List.set_cons_zero, List.set_cons_succ]
        refine H.tk (i := 19) (v := .agg (cellsD (e1, e3))) ?h19x19 hS ?_
        case h19x19 => exact fun w _ => ex_built rfl (by kernel_rfl)
        try simp only [Act.put, List.setIfInBounds_toArray, List.set_cons_zero, List.set_cons_succ]
        refine H.one (i := 20) (by simp only [List.getElem?_toArray, List.getElem?_cons_succ, List.getElem?_cons_zero]; rfl) (by kernel_rfl) (by kernel_rfl) (fun K hK => ?_)
        refine wp_valW rfl (Ds.ex_bs (m := (e1, e3)) rfl rfl) ?_
        refine hK.out _ _ trivial ?_
        clear hK K
        try simp only [Act.put, List.setIfInBounds_toArray, List.set_cons_zero, List.set_cons_succ]
        refine H.one (i := 21) (by simp only [List.getElem?_toArray, List.getElem?_cons_succ, List.getElem?_cons_zero]; rfl) (by kernel_rfl) (by kernel_rfl) (fun K hK => ?_)
        refine Ds.wp_app (.tmp 53) (.tmp 72) rfl V.heap.size (.slice a0 lk.length c0) lk (e1, e3) X0.heap.size 1 rfl (HL.out.below (balloc (Below.refl _ X0) (.cells (cellsD (e1, e3)) 50))) rfl (Ds.cells_new (e1, e3) X0) HC.out (Nat.le_trans HV.out (balloc (Below.refl _ X0) (.cells (cellsD (e1, e3)) 50)).size) (fun v' w' hl hgw hbw => ?_)
        generalize hlk : lk ++ [(e1, e3)] = lk2 at *
        clear hlk
        obtain ⟨a1, c1, rfl⟩ := hl.slice
        have HX2 := Lib.hid (show Bx w' g { M.zero with kind := 5, flags := y / 128, la := a0, ll := lk, lc := c0 } from (hbw.block g hg).trans (HX.out.old (.cells (cellsD (e1, e3)) 50)))
        have HR2 := Lib.hid (show Bx w' w.heap.size M.zero from (hbw.block w.heap.size (by omega)).trans (HR0.out.old (.cells (cellsD (e1, e3)) 50)))
        have HB2 := Lib.hid ((balloc HB.out (.cells (cellsD (e1, e3)) 50)).trans (hbw.mono (by omega)))
        have HV2 := Lib.hid (Nat.le_trans (Nat.le_trans HV.out (balloc (Below.refl _ X0) (.cells (cellsD (e1, e3)) 50)).size) hbw.size)
        have HL2 := Lib.hid hl
        refine hK.out _ _ trivial ?_
        clear hK K hl hgw hbw HX HR0 HB HV HL
        try simp only [Act.put, List.setIfInBounds_toArray, List.set_cons_zero, List.set_cons_succ]
        refine H.tk (i := 22) (v := ?v22x20) ?h22x20 hS ?_
        case h22x20 => (intro w hw; go_simp; first | done | (with_reducible rfl))
        try simp only [Act.put, List.setIfInBounds_toArray, List.set_cons_zero, List.set_cons_succ]
        refine H.one (i := 23) (by simp only [List.getElem?_toArray, List.getElem?_cons_succ, List.getElem?_cons_zero]; rfl) (by kernel_rfl) (by kernel_rfl) (fun K hK => ?_)
        have cx := HX2.out.cell 21 _ rfl
        have fx := HX2.out.frozen 21
        go_simp
        refine hK.out _ _ trivial ?_
        have HX3 := Lib.hid (HX2.out.set (i := 21) (v := (.slice a1 lk2.length c1)) (m' := { M.zero with kind := 5, flags := y / 128, la := a1, ll := lk2, lc := c1 }) rfl)
        have HR3 := Lib.hid (HR2.out.off (p := ⟨g, 21, none⟩) (by show w.heap.size ≠ g; omega) (.slice a1 lk2.length c1))
        have HB3 := Lib.hid (HB2.out.setCell (p := ⟨g, 21, none⟩) (by show w.heap.size ≤ g; omega) (.slice a1 lk2.length c1))
        have HL3 := Lib.hid (Ds.lst_cell HL2.out (p := ⟨g, 21, none⟩) hg (.slice a1 lk2.length c1))
        have HV3 := Lib.hid (show V.heap.size ≤ (w'.setCell ⟨g, 21, none⟩ (.slice a1 lk2.length c1)).heap.size from by rw [World.size_setCell]; exact HV2.out)
        clear hK K cx fx HX2 HR2 HB2 HL2 HV2
        generalize w'.setCell ⟨g, 21, none⟩ (.slice a1 lk2.length c1) = w3 at *
        try simp only [Act.put, List.setIfInBounds_toArray, List.set_cons_zero, List.set_cons_succ]
        refine wpAnyH_done (by kernel_rfl) ?_ _
        go_wp2
        go_roundw
        case rel => exact ⟨k + 1, a1, c1, hlt, by push_cast; rfl, by rw [HD.out]; exact HX3, by rw [HD.out]; exact HL3, HR3, HB3, HV3⟩
        case measure => simp only [intOf]; omega
      case wb18 =>
        go_simp
        refine (PN.out _).mono ?_
        rintro e X0 ⟨rfl, rfl⟩
        refine hK.out _ _ trivial ?_
        clear hK K
        try simp only [Act.put, List.setIfInBounds_toArray, List.set_cons_zero, List.set_cons_succ]
        refine H.tk (i := 19) (v := .agg (cellsD (e1, e3))) ?h19x21 hS ?_
        case h19x21 => exact fun w _ => ex_built rfl (by kernel_rfl)
        try simp only [Act.put, List.setIfInBounds_toArray, List.set_cons_zero, List.set_cons_succ]
        refine H.two (i := 1) (j := 20) (by simp only [List.getElem?_toArray, List.getElem?_cons_succ, List.getElem?_cons_zero]; rfl) (by kernel_rfl) (by simp only [List.getElem?_toArray, List.getElem?_cons_succ, List.getElem?_cons_zero]; rfl) (by kernel_rfl) (by kernel_rfl) (fun K hK => ?wa22) (fun K hK => ?wb22)
        case wa22 =>
          refine wp_valW (v := .slice a0 lk.length c0) (w' := X0) rfl (by have c := HX.out.cs.c21; go_simp) ?_
          refine hK.out _ _ trivial ?_
          clear hK K
          try simp only [Act.put, List.setIfInBounds_toArray, List.set_cons_zero, List.set_cons_succ]
          refine H.one (i := 20) (by simp only [List.getElem?_toArray, List.getElem?_cons_succ, List.getElem?_cons_zero]; rfl) (by kernel_rfl) (by kernel_rfl) (fun K hK => ?_)
          refine wp_valW rfl (Ds.ex_bs (m := (e1, e3)) rfl rfl) ?_
          refine hK.out _ _ trivial ?_
          clear hK K
          try simp only [Act.put, List.setIfInBounds_toArray, List.set_cons_zero, List.set_cons_succ]
          refine H.one (i := 21) (by simp only [List.getElem?_toArray, List.getElem?_cons_succ, List.getElem?_cons_zero]; rfl) (by kernel_rfl) (by kernel_rfl) (fun K hK => ?_)
          refine Ds.wp_app (.tmp 53) (.tmp 72) rfl V.heap.size (.slice a0 lk.length c0) lk (e1, e3) X0.heap.size 1 rfl (HL.out.below (balloc (Below.refl _ X0) (.cells (cellsD (e1, e3)) 50))) rfl (Ds.cells_new (e1, e3) X0) HC.out (Nat.le_trans HV.out (balloc (Below.refl _ X0) (.cells (cellsD (e1, e3)) 50)).size) (fun v' w' hl hgw hbw => ?_)
          generalize hlk : lk ++ [(e1, e3)] = lk2 at *
          clear hlk
          obtain ⟨a1, c1, rfl⟩ := hl.slice
          have HX2 := Lib.hid (show Bx w' g { M.zero with kind := 5, flags := y / 128, la := a0, ll := lk, lc := c0 } from (hbw.block g hg).trans (HX.out.old (.cells (cellsD (e1, e3)) 50)))
          have HR2 := Lib.hid (show Bx w' w.heap.size M.zero from (hbw.block w.heap.size (by omega)).trans (HR0.out.old (.cells (cellsD (e1, e3)) 50)))
          have HB2 := Lib.hid ((balloc HB.out (.cells (cellsD (e1, e3)) 50)).trans (hbw.mono (by omega)))
          have HV2 := Lib.hid (Nat.le_trans (Nat.le_trans HV.out (balloc (Below.refl _ X0) (.cells (cellsD (e1, e3)) 50)).size) hbw.size)
          have HL2 := Lib.hid hl
          refine hK.out _ _ trivial ?_
          clear hK K hl hgw hbw HX HR0 HB HV HL
          try simp only [Act.put, List.setIfInBounds_toArray, List.set_cons_zero, List.set_cons_succ]
          refine H.tk (i := 22) (v := ?v22x23) ?h22x23 hS ?_
          case h22x23 => (intro w hw; go_simp; first | done | (with_reducible rfl))
          try simp only [Act.put, List.setIfInBounds_toArray, List.set_cons_zero, List.set_cons_succ]
          refine H.one (i := 23) (by simp only [List.getElem?_toArray, List.getElem?_cons_succ, List.getElem?_cons_zero]; rfl) (by kernel_rfl) (by kernel_rfl) (fun K hK => ?_)
          have cx := HX2.out.cell 21 _ rfl
          have fx := HX2.out.frozen 21
          go_simp
          refine hK.out _ _ trivial ?_
          have HX3 := Lib.hid (HX2.out.set (i := 21) (v := (.slice a1 lk2.length c1)) (m' := { M.zero with kind := 5, flags := y / 128, la := a1, ll := lk2, lc := c1 }) rfl)
          have HR3 := Lib.hid (HR2.out.off (p := ⟨g, 21, none⟩) (by show w.heap.size ≠ g; omega) (.slice a1 lk2.length c1))
          have HB3 := Lib.hid (HB2.out.setCell (p := ⟨g, 21, none⟩) (by show w.heap.size ≤ g; omega) (.slice a1 lk2.length c1))
          have HL3 := Lib.hid (Ds.lst_cell HL2.out (p := ⟨g, 21, none⟩) hg (.slice a1 lk2.length c1))
          have HV3 := Lib.hid (show V.heap.size ≤ (w'.setCell ⟨g, 21, none⟩ (.slice a1 lk2.length c1)).heap.size from by rw [World.size_setCell]; exact HV2.out)
          clear hK K cx fx HX2 HR2 HB2 HL2 HV2
          generalize w'.setCell ⟨g, 21, none⟩ (.slice a1 lk2.length c1) = w3 at *
          try simp only [Act.put, List.setIfInBounds_toArray, List.set_cons_zero, List.set_cons_succ]
          refine wpAnyH_done (by kernel_rfl) ?_ _
          go_wp2
          go_roundw
          case rel => exact ⟨k + 1, a1, c1, hlt, by push_cast; rfl, by rw [HD.out]; exact HX3, by rw [HD.out]; exact HL3, HR3, HB3, HV3⟩
          case measure => simp only [intOf]; omega
        case wb22 =>
          refine wp_valW rfl (Ds.ex_bs (m := (e1, e3)) rfl rfl) ?_
          refine hK.out _ _ trivial ?_
          clear hK K
          try simp only [Act.put, List.setIfInBounds_toArray, List.set_cons_zero, List.set_cons_succ]
          refine H.one (i := 1) (by simp only [List.getElem?_toArray, List.getElem?_cons_succ, List.getElem?_cons_zero]; rfl) (by kernel_rfl) (by kernel_rfl) (fun K hK => ?_)
          refine wp_valW (v := .slice a0 lk.length c0) (w' := X0.alloc (.cells (cellsD (e1, e3)) 50)) rfl (by have c := (HX.out.old (.cells (cellsD (e1, e3)) 50)).cs.c21; go_simp) ?_
          refine hK.out _ _ trivial ?_
          clear hK K
          try simp only [Act.put, List.setIfInBounds_toArray, List.set_cons_zero, List.set_cons_succ]
          refine H.one (i := 21) (by simp only [List.getElem?_toArray, List.getElem?_cons_succ, List.getElem?_cons_zero]; rfl) (by kernel_rfl) (by kernel_rfl) (fun K hK => ?_)
          refine Ds.wp_app (.tmp 53) (.tmp 72) rfl V.heap.size (.slice a0 lk.length c0) lk (e1, e3) X0.heap.size 1 rfl (HL.out.below (balloc (Below.refl _ X0) (.cells (cellsD (e1, e3)) 50))) rfl (Ds.cells_new (e1, e3) X0) HC.out (Nat.le_trans HV.out (balloc (Below.refl _ X0) (.cells (cellsD (e1, e3)) 50)).size) (fun v' w' hl hgw hbw => ?_)
          generalize hlk : lk ++ [(e1, e3)] = lk2 at *
          clear hlk
          obtain ⟨a1, c1, rfl⟩ := hl.slice
          have HX2 := Lib.hid (show Bx w' g { M.zero with kind := 5, flags := y / 128, la := a0, ll := lk, lc := c0 } from (hbw.block g hg).trans (HX.out.old (.cells (cellsD (e1, e3)) 50)))
          have HR2 := Lib.hid (show Bx w' w.heap.size M.zero from (hbw.block w.heap.size (by omega)).trans (HR0.out.old (.cells (cellsD (e1, e3)) 50)))
          have HB2 := Lib.hid ((balloc HB.out (.cells (cellsD (e1, e3)) 50)).trans (hbw.mono (by omega)))
          have HV2 := Lib.hid (Nat.le_trans (Nat.le_trans HV.out (balloc (Below.refl _ X0) (.cells (cellsD (e1, e3)) 50)).size) hbw.size)
          have HL2 := Lib.hid hl
          refine hK.out _ _ trivial ?_
          clear hK K hl hgw hbw HX HR0 HB HV HL
          try simp only [Act.put, List.setIfInBounds_toArray, List.set_cons_zero, List.set_cons_succ]
          refine H.tk (i := 22) (v := ?v22x24) ?h22x24 hS ?_
          case h22x24 => (intro w hw; go_simp; first | done | (with_reducible rfl))
          try simp only [Act.put, List.setIfInBounds_toArray, List.set_cons_zero, List.set_cons_succ]
          refine H.one (i := 23) (by simp only [List.getElem?_toArray, List.getElem?_cons_succ, List.getElem?_cons_zero]; rfl) (by kernel_rfl) (by kernel_rfl) (fun K hK => ?_)
          have cx := HX2.out.cell 21 _ rfl
          have fx := HX2.out.frozen 21
          go_simp
          refine hK.out _ _ trivial ?_
          have HX3 := Lib.hid (HX2.out.set (i := 21) (v := (.slice a1 lk2.length c1)) (m' := { M.zero with kind := 5, flags := y / 128, la := a1, ll := lk2, lc := c1 }) rfl)
          have HR3 := Lib.hid (HR2.out.off (p := ⟨g, 21, none⟩) (by show w.heap.size ≠ g; omega) (.slice a1 lk2.length c1))
          have HB3 := Lib.hid (HB2.out.setCell (p := ⟨g, 21, none⟩) (by show w.heap.size ≤ g; omega) (.slice a1 lk2.length c1))
          have HL3 := Lib.hid (Ds.lst_cell HL2.out (p := ⟨g, 21, none⟩) hg (.slice a1 lk2.length c1))
          have HV3 := Lib.hid (show V.heap.size ≤ (w'.setCell ⟨g, 21, none⟩ (.slice a1 lk2.length c1)).heap.size from by rw [World.size_setCell]; exact HV2.out)
          clear hK K cx fx HX2 HR2 HB2 HL2 HV2
          generalize w'.setCell ⟨g, 21, none⟩ (.slice a1 lk2.length c1) = w3 at *
          try simp only [Act.put, List.setIfInBounds_toArray, List.set_cons_zero, List.set_cons_succ]
          refine wpAnyH_done (by kernel_rfl) ?_ _
          go_wp2
          go_roundw
          case rel => exact ⟨k + 1, a1, c1, hlt, by push_cast; rfl, by rw [HD.out]; exact HX3, by rw [HD.out]; exact HL3, HR3, HB3, HV3⟩
          case measure => simp only [intOf]; omega
    · obtain rfl : k = n := by omega
      have hkn : ¬ (k : Int) < (k : Int) := by omega
      have HN4 := Lib.hid (HO4.out k)
      generalize dests k T = lk at *
      clear HO1 HO2 HO3 HO4
      go_wp2_with fail
      refine (PG.out _).mono ?_
      rintro e w1 ⟨a, c, rfl, hr, hb⟩
      have HX1 := Lib.hid (HX.out.below hb)
      have HR1 := Lib.hid (HR0.out.below hb)
      have HB1 := Lib.hid (bcall HB.out hb)
      have HD := Lib.hid (HL.out.below hb)
      have HL := Lib.hid hr
      have hgr : g < wr.heap.size := HX.out.lt
      have hgV : g < V.heap.size := hg
      clear hb hr PG HX HR0 HB sl
      by_cases hx : x = 0
      rotate_left
      · have HY := Lib.hid (HY1.out hx)
        rw [show ((4 + 8 * k : Nat) : Int) = 4 + 8 * (k : Int) by push_cast; rfl] at HY
        clear HY1 HY2
        go_wp2_with (first | (refine wpList_builtK rfl 34 _ rfl (M.cells M.zero) (by kernel_rfl) ?_) | (refine wpList_storeM (b := w.heap.size) (m := M.zero) (m' := M.zero) rfl _ _ rfl rfl rfl HR1.out ?_))
        exact bodyPost_ret (v := .tuple #[.agg M.zero.cells, .int .i64 (4 + 8 * (k : Int) + i), .int .i64 x]) (ret3 rfl _ _ w.heap.size M.zero rfl (HR1.out.put (m' := M.zero)) (.int .i64 (4 + 8 * (k : Int) + i)) rfl (.int .i64 x) rfl) rfl (AnsM.no HY.out (below_setRow HB1.out (Nat.le_refl _) _))
      have HY := Lib.hid (HY2.out hx)
      subst hx
      rw [HR.out] at HY
      clear HY1 HY2
      go_upto_region 18 with fail
      have d := HX1.out.cs.c24
      have fd := HX1.out.frozen 24
      go_upto_region 19 with fail
      have X4 := Lib.hid (HX1.out.set (i := 24) (v := .slice a l.length c) (m' := { M.zero with kind := 5, flags := y / 128, la := a0, ll := lk, lc := c0, sa := a, sl := l, sc := c }) rfl)
      have R4 := Lib.hid (HR1.out.off (p := ⟨g, 24, none⟩) (by show w.heap.size ≠ g; omega) (.slice a l.length c))
      have bel4 := Lib.hid (HB1.out.setCell (p := ⟨g, 24, none⟩) (by show w.heap.size ≤ g; omega) (.slice a l.length c))
      have HL := Lib.hid (sub_cell HL.out (p := ⟨g, 24, none⟩) hgr (.slice a l.length c))
      have HD := Lib.hid (Ds.lst_cell HD.out (p := ⟨g, 24, none⟩) hgV (.slice a l.length c))
      clear d fd HX1 HR1 HB1
      generalize w1.setCell ⟨g, 24, none⟩ (.slice a l.length c) = V2 at *
      go_wp2_with (first | (refine wpList_loadM (b := g) (m := { M.zero with kind := 5, flags := y / 128, la := a0, ll := lk, lc := c0, sa := a, sl := l, sc := c }) rfl _ rfl rfl X4.out ?_) | (refine wpList_storeM (b := w.heap.size) (m := M.zero) (m' := { M.zero with kind := 5, flags := y / 128, la := a0, ll := lk, lc := c0, sa := a, sl := l, sc := c }) rfl _ _ rfl rfl rfl R4.out ?_))
      exact bodyPost_ret (v := .tuple #[.agg (M.cells { M.zero with kind := 5, flags := y / 128, la := a0, ll := lk, lc := c0, sa := a, sl := l, sc := c }), .int .i64 0, .int .i64 0]) (ret3 rfl _ _ w.heap.size { M.zero with kind := 5, flags := y / 128, la := a0, ll := lk, lc := c0, sa := a, sl := l, sc := c } rfl (R4.out.put (m' := { M.zero with kind := 5, flags := y / 128, la := a0, ll := lk, lc := c0, sa := a, sl := l, sc := c })) (.int .i64 0) rfl (.int .i64 0) rfl) rfl (AnsM.both (r := { M.zero with kind := 5, flags := y / 128, ll := lk }) HY.out (Ds.lst_under HD.out (by omega) _) (by omega) (lst_under HL.out (by omega) _) (by omega) (below_setRow bel4.out (Nat.le_refl _) _))
end Go.Proofs.Ytlelfapmleopaaa.Y4
