/-
  The document's Get: the request that a TLV says. Conditions: a type of its own, at most 100000 bytes.
-/
import Derived.Test.YtjhfpobjbijcpaaGreatDoorB19
import Derived.Test.YtjhfpobjbijcpaaGreatDoorB34
import Derived.Test.YtjhfpobjbijcpaaGreatDoorB35
namespace Go.Proofs.YtjhfpobjbijcpaaGreatDoor.J8
open Go.ChangeShapes Go.WideShapes Go.ChangeAt Go.RowKit
open Go.Proofs.YtjhfpobjbijcpaaGreatDoor.Ms
open Go.Proofs.YtjhfpobjbijcpaaGreatDoor.Box
open Go.Proofs.YtjhfpobjbijcpaaGreatDoor.S1
open Go.Proofs.YtjhfpobjbijcpaaGreatDoor.Nu
open Go.Proofs.YtjhfpobjbijcpaaGreatDoor.J1
open Go.Proofs.YtjhfpobjbijcpaaGreatDoor.J2
open Go.Proofs.YtjhfpobjbijcpaaGreatDoor.J6 (lst_cell)
open Go.Proofs.YtjhfpobjbijcpaaGreatDoor.An
open Go.Proofs.YtjhfpobjbijcpaaGreatDoor.F1 (bt bt_nn bt_lt)
open Go.Proofs.YtjhfpobjbijcpaaGreatDoor.F2 (idx sl_m sl_l)
open Go.Proofs.YtjhfpobjbijcpaaGreatDoor.Hx (conv8)
open Go.Proofs.YtjhfpobjbijcpaaGreatDoor.Pre (leastN)
open Go.Proofs.YtjhfpobjbijcpaaGreatDoor.Oct (fitsB)
open Go.Proofs.YtjhfpobjbijcpaaGreatDoor.Tl (cellsT)
open Go.Proofs.YtjhfpobjbijcpaaGreatDoor.Bk (Bk wpList_builtK alloc_size)
open Go.Proofs.YtjhfpobjbijcpaaGreatDoor.Hs
set_option linter.unusedVariables false
set_option maxRecDepth 100000
set_option maxRecDepth 100000
theorem rnum2 (s : ByteArray) (a b : Nat) (h : b = a + 2) (w : World) : Calls Tryz.prog 90 #[.string (s.extract a b)] w fun e w' => e = .returned (.int .i64 (num2 s a)) ∧ w' = w := by
  subst h
  have := rnum_ext s a (a + 2) w (by omega)
  rw [Nat.add_sub_cancel_left] at this
  exact this
/-- What stands: the TLV, the answer's block (a struct of the type T). -/
structure D (T : TypeId) (zs : Array Value) (w0 W : World) (a : Int) (s : ByteArray) (t : Int) : Prop where
  tl : Bk 79 W w0.heap.size (cellsT (a, (s, t)))
  res : Bk T W (w0.heap.size + 1) zs
  bel : Below w0.heap.size w0 W
section
variable {T : TypeId} {zs : Array Value} {w0 W W' : World} {a t : Int} {s : ByteArray}
theorem D.call (d : D T zs w0 W a s t) (hb : Below W.heap.size W W') : D T zs w0 W' a s t := ⟨d.tl.below hb, d.res.below hb, d.bel.trans (hb.mono d.bel.size)⟩
theorem D.drew (d : D T zs w0 W a s t) : D T zs w0 W.drew a s t := ⟨d.tl, d.res, d.bel.drew⟩
theorem D.row {g : Nat} (d : D T zs w0 W a s t) (hg : w0.heap.size + 1 < g) (cs : Array Value) : D T zs w0 (W.setRow g cs) a s t := ⟨d.tl.row (by omega) _, d.res.row (by omega) _, Box.below_setRow d.bel (by omega) _⟩
theorem D.cell {g : Nat} (d : D T zs w0 W a s t) (hg : w0.heap.size + 1 < g) (i : Nat) (v : Value) : D T zs w0 (W.setCell ⟨g, i, none⟩ v) a s t := ⟨d.tl.off (by show w0.heap.size ≠ g; omega) _, d.res.off (by show w0.heap.size + 1 ≠ g; omega) _, d.bel.setCell (p := ⟨g, i, none⟩) (by show w0.heap.size ≤ g; omega) _⟩
theorem D.start (w : World) (a t : Int) (s : ByteArray) : D T zs w ((w.alloc (.cells (cellsT (a, (s, t))) 79)).alloc (.cells zs T)) a s t := by
  have X0 := Bk.Bk.new T (w.alloc (.cells (cellsT (a, (s, t))) 79)) zs
  rw [alloc_size] at X0
  exact ⟨(Bk.Bk.new _ w _).old _, X0, balloc (balloc (Below.refl _ w) _) _⟩
end
theorem kind_ten {d : ByteArray} (h : 14 ≤ d.size) : kindB (hdJ 10 d) = (!decide (bt d 0 = 0) && !decide (bt d 4 = 0)) := by
  rw [kind_10]
  have e : seqB (hd10 d) = (!decide (bt d 0 = 0) && (fitsB (num2 d 2) 2 && (decide ((d.extract 6 14).size = 8) && (decide (1 ≤ bt d 4) && fitsB (bt d 4) 1)))) := rfl
  have b0 := bt_nn d 4
  have b1 := bt_lt d 4
  rw [e, num2_fits (by omega), decide_eq_true (ext_size d 6 14 h), fits1 b0 b1, Bool.true_and, Bool.true_and, Bool.and_true]
  congr 1
  by_cases h0 : bt d 4 = 0
  · rw [decide_eq_true h0, h0]; rfl
  · rw [decide_eq_false h0, decide_eq_true (by omega)]; rfl
set_option maxHeartbeats 25600000 in
theorem rget_9 (a : Int) (s : ByteArray) (w : World) (hs : s.size ≤ 100000) : Calls Tryz.prog 71 #[.agg (cellsT (a, (s, 9)))] w (AnsB (outJ 9 s) w) := by
  have szt : szJ 9 = 2 := rfl
  by_cases hz : s.size < 2
  · have HY := Lib.hid (out_no (t := 9) (d := s) (end_short (by rw [szt]; exact hz)))
    go_enter Tryz.func71, Tryz.ntmps71
    go_upto_region 1 with fail
    change Code.wp _ _ _ _ ((w.alloc (.cells (cellsT (a, (s, 9))) 79)).alloc (.cells M.zero.cells 38))
    have HD := Lib.hid (D.start (T := 38) (zs := M.zero.cells) w a 9 s)
    generalize (w.alloc (.cells (cellsT (a, (s, 9))) 79)).alloc (.cells M.zero.cells 38) = W at *
    have c0 := HD.out.tl.cell 0 (.int .i64 9) rfl
    have c2 := HD.out.tl.cell 2 (.string s) rfl
    go_wp2_with (first | (refine wpList_builtK rfl 38 _ rfl (M.cells M.zero) (by kernel_rfl) ?_) | (refine wpList_storeM (b := w.heap.size + 1) (m := M.zero) (m' := M.zero) rfl _ _ rfl rfl rfl HD.out.res ?_))
    exact bodyPost_ret (v := .tuple #[.agg M.zero.cells, .bool false, .int .i64 2]) (ret3 rfl _ _ (w.heap.size + 1) M.zero rfl (HD.out.res.put M.zero.cells) (.bool false) rfl (.int .i64 2) rfl) rfl (AnsB.no HY.out (Box.below_setRow HD.out.bel (by omega) _))
  have hz' : ¬ s.size < szJ 9 := by rw [szt]; exact hz
  have i0 := idx s 0 0 rfl (by omega)
  have i1 := idx s 1 1 rfl (by omega)
  have b0 := bt_nn s 0
  have b1 := bt_lt s 0
  have b2 := bt_nn s 1
  have b3 := bt_lt s 1
  have v0 := conv8 (bt s 0) b0 b1
  have v1 := conv8 (bt s 1) b2 b3
  by_cases k3 : 3 < bt s 0
  · have HY := Lib.hid (out_no (t := 9) (d := s) (end_none hz' k3))
    generalize bt s 0 = y0 at *
    generalize bt s 1 = y1 at *
    go_enter Tryz.func71, Tryz.ntmps71
    go_upto_region 1 with fail
    change Code.wp _ _ _ _ ((w.alloc (.cells (cellsT (a, (s, 9))) 79)).alloc (.cells M.zero.cells 38))
    have HD := Lib.hid (D.start (T := 38) (zs := M.zero.cells) w a 9 s)
    generalize (w.alloc (.cells (cellsT (a, (s, 9))) 79)).alloc (.cells M.zero.cells 38) = W at *
    have c0 := HD.out.tl.cell 0 (.int .i64 9) rfl
    have c2 := HD.out.tl.cell 2 (.string s) rfl
    go_upto_region 7 with fail
    clear c0 c2
    refine wp_region_held_drew (S := fun _ => True) (by kernel_rfl) trivial (fun hS => ?_)
    have HD := Lib.hid HD.out.drew
    generalize W.drew = W at *
    refine H.tk (i := 0) (v := ?v0) ?h0 hS ?_
    case h0 => (intro w hw; go_simp; first | done | (with_reducible rfl))
    try simp only [Act.put, List.setIfInBounds_toArray, List.set_cons_zero, List.set_cons_succ]
    refine H.tk (i := 1) (v := .int .u8 y0) ?h1 hS ?_
    case h1 => exact (fun w hw => by go_simp)
    try simp only [Act.put, List.setIfInBounds_toArray, List.set_cons_zero, List.set_cons_succ]
    refine H.tk (i := 2) (v := .int .i64 y0) ?h2 hS ?_
    case h2 => exact (fun w hw => by go_simp)
    try simp only [Act.put, List.setIfInBounds_toArray, List.set_cons_zero, List.set_cons_succ]
    refine H.tk (i := 3) (v := ?v3) ?h3 hS ?_
    case h3 => (intro w hw; go_simp; first | done | (with_reducible rfl))
    try simp only [Act.put, List.setIfInBounds_toArray, List.set_cons_zero, List.set_cons_succ]
    refine H.tk (i := 4) (v := .int .u8 y1) ?h4 hS ?_
    case h4 => exact (fun w hw => by go_simp)
    try simp only [Act.put, List.setIfInBounds_toArray, List.set_cons_zero, List.set_cons_succ]
    refine H.tk (i := 5) (v := .int .i64 y1) ?h5 hS ?_
    case h5 => exact (fun w hw => by go_simp)
    try simp only [Act.put, List.setIfInBounds_toArray, List.set_cons_zero, List.set_cons_succ]
    refine H.tk (i := 6) (v := (.int .i64 y0)) (fun w _ => rfl) hS ?_
    try simp only [Act.put, List.setIfInBounds_toArray, List.set_cons_zero, List.set_cons_succ]
    refine H.tk (i := 7) (v := (.int .i64 y1)) (fun w _ => rfl) hS ?_
    try simp only [Act.put, List.setIfInBounds_toArray, List.set_cons_zero, List.set_cons_succ]
    refine wpAnyH_done (by kernel_rfl) ?_ _
    clear hS i0 i1 v0 v1
    go_wp2_with (first | (refine wpList_builtK rfl 38 _ rfl (M.cells M.zero) (by kernel_rfl) ?_) | (refine wpList_storeM (b := w.heap.size + 1) (m := M.zero) (m' := M.zero) rfl _ _ rfl rfl rfl HD.out.res ?_))
    exact bodyPost_ret (v := .tuple #[.agg M.zero.cells, .bool false, .int .i64 0]) (ret3 rfl _ _ (w.heap.size + 1) M.zero rfl (HD.out.res.put M.zero.cells) (.bool false) rfl (.int .i64 0) rfl) rfl (AnsB.no HY.out (Box.below_setRow HD.out.bel (by omega) _))
  have PG := Lib.hid (fun V => great_any (bt s 0) (bt s 1) V b0 (by omega) b2)
  cases g1 : lenB (bt s 0) (bt s 1)
  · have HY := Lib.hid (out_no (t := 9) (d := s) (end_range hz' k3 (.inl g1)))
    rw [g1] at PG
    clear g1
    generalize bt s 0 = y0 at *
    generalize bt s 1 = y1 at *
    go_enter Tryz.func71, Tryz.ntmps71
    go_upto_region 1 with fail
    change Code.wp _ _ _ _ ((w.alloc (.cells (cellsT (a, (s, 9))) 79)).alloc (.cells M.zero.cells 38))
    have HD := Lib.hid (D.start (T := 38) (zs := M.zero.cells) w a 9 s)
    generalize (w.alloc (.cells (cellsT (a, (s, 9))) 79)).alloc (.cells M.zero.cells 38) = W at *
    have c0 := HD.out.tl.cell 0 (.int .i64 9) rfl
    have c2 := HD.out.tl.cell 2 (.string s) rfl
    go_upto_region 7 with fail
    clear c0 c2
    refine wp_region_held_drew (S := fun _ => True) (by kernel_rfl) trivial (fun hS => ?_)
    have HD := Lib.hid HD.out.drew
    generalize W.drew = W at *
    refine H.tk (i := 0) (v := ?v0) ?h0 hS ?_
    case h0 => (intro w hw; go_simp; first | done | (with_reducible rfl))
    try simp only [Act.put, List.setIfInBounds_toArray, List.set_cons_zero, List.set_cons_succ]
    refine H.tk (i := 1) (v := .int .u8 y0) ?h1 hS ?_
    case h1 => exact (fun w hw => by go_simp)
    try simp only [Act.put, List.setIfInBounds_toArray, List.set_cons_zero, List.set_cons_succ]
    refine H.tk (i := 2) (v := .int .i64 y0) ?h2 hS ?_
    case h2 => exact (fun w hw => by go_simp)
    try simp only [Act.put, List.setIfInBounds_toArray, List.set_cons_zero, List.set_cons_succ]
    refine H.tk (i := 3) (v := ?v3) ?h3 hS ?_
    case h3 => (intro w hw; go_simp; first | done | (with_reducible rfl))
    try simp only [Act.put, List.setIfInBounds_toArray, List.set_cons_zero, List.set_cons_succ]
    refine H.tk (i := 4) (v := .int .u8 y1) ?h4 hS ?_
    case h4 => exact (fun w hw => by go_simp)
    try simp only [Act.put, List.setIfInBounds_toArray, List.set_cons_zero, List.set_cons_succ]
    refine H.tk (i := 5) (v := .int .i64 y1) ?h5 hS ?_
    case h5 => exact (fun w hw => by go_simp)
    try simp only [Act.put, List.setIfInBounds_toArray, List.set_cons_zero, List.set_cons_succ]
    refine H.tk (i := 6) (v := (.int .i64 y0)) (fun w _ => rfl) hS ?_
    try simp only [Act.put, List.setIfInBounds_toArray, List.set_cons_zero, List.set_cons_succ]
    refine H.tk (i := 7) (v := (.int .i64 y1)) (fun w _ => rfl) hS ?_
    try simp only [Act.put, List.setIfInBounds_toArray, List.set_cons_zero, List.set_cons_succ]
    refine wpAnyH_done (by kernel_rfl) ?_ _
    clear hS i0 i1 v0 v1
    go_wp2_with fail
    refine (PG.out _).mono ?_
    rintro r w' ⟨rfl, rfl⟩
    go_wp2_with (first | (refine wpList_builtK rfl 38 _ rfl (M.cells M.zero) (by kernel_rfl) ?_) | (refine wpList_storeM (b := w.heap.size + 1) (m := M.zero) (m' := M.zero) rfl _ _ rfl rfl rfl HD.out.res ?_))
    exact bodyPost_ret (v := .tuple #[.agg M.zero.cells, .bool false, .int .i64 6]) (ret3 rfl _ _ (w.heap.size + 1) M.zero rfl (HD.out.res.put M.zero.cells) (.bool false) rfl (.int .i64 6) rfl) rfl (AnsB.no HY.out (Box.below_setRow HD.out.bel (by omega) _))
  rw [g1] at PG
  have hcl := count_le g1
  have PL := Lib.hid (fun V => Pre.rleast_any (bt s 1) V (by omega))
  have PB := Lib.hid (fun V => base_any (bt s 0) V)
  obtain ⟨n, hn⟩ : ∃ n, countN (bt s 0) (bt s 1) = n := ⟨_, rfl⟩
  have hr : restN (szJ 9) (bt s 0) (bt s 1) 0 = 2 + n := by unfold restN; rw [hn, szt]; rfl
  have hw : wrap64 ((leastN (bt s 1) : Int) - (baseN (bt s 0) : Int)) = (n : Int) := by rw [IntWalk.wrap64_in _ ⟨by omega, by omega⟩]; omega
  have hn16 : n ≤ 16 := by omega
  have g2 : ¬ (countN (bt s 0) (bt s 1) : Int) < 0 := by omega
  by_cases c9 : s.size < 2 + n
  · have HY := Lib.hid (out_no (t := 9) (d := s) (end_cut hz' k3 g1 g2 (by rw [hr]; exact c9)))
    have c9' : (s.size : Int) < 2 + (n : Int) := by omega
    clear hr hn g1 g2 hcl
    generalize leastN (bt s 1) = ln at *
    generalize baseN (bt s 0) = bn at *
    generalize bt s 0 = y0 at *
    generalize bt s 1 = y1 at *
    go_enter Tryz.func71, Tryz.ntmps71
    go_upto_region 1 with fail
    change Code.wp _ _ _ _ ((w.alloc (.cells (cellsT (a, (s, 9))) 79)).alloc (.cells M.zero.cells 38))
    have HD := Lib.hid (D.start (T := 38) (zs := M.zero.cells) w a 9 s)
    generalize (w.alloc (.cells (cellsT (a, (s, 9))) 79)).alloc (.cells M.zero.cells 38) = W at *
    have c0 := HD.out.tl.cell 0 (.int .i64 9) rfl
    have c2 := HD.out.tl.cell 2 (.string s) rfl
    go_upto_region 7 with fail
    clear c0 c2
    refine wp_region_held_drew (S := fun _ => True) (by kernel_rfl) trivial (fun hS => ?_)
    have HD := Lib.hid HD.out.drew
    generalize W.drew = W at *
    refine H.tk (i := 0) (v := ?v0) ?h0 hS ?_
    case h0 => (intro w hw; go_simp; first | done | (with_reducible rfl))
    try simp only [Act.put, List.setIfInBounds_toArray, List.set_cons_zero, List.set_cons_succ]
    refine H.tk (i := 1) (v := .int .u8 y0) ?h1 hS ?_
    case h1 => exact (fun w hw => by go_simp)
    try simp only [Act.put, List.setIfInBounds_toArray, List.set_cons_zero, List.set_cons_succ]
    refine H.tk (i := 2) (v := .int .i64 y0) ?h2 hS ?_
    case h2 => exact (fun w hw => by go_simp)
    try simp only [Act.put, List.setIfInBounds_toArray, List.set_cons_zero, List.set_cons_succ]
    refine H.tk (i := 3) (v := ?v3) ?h3 hS ?_
    case h3 => (intro w hw; go_simp; first | done | (with_reducible rfl))
    try simp only [Act.put, List.setIfInBounds_toArray, List.set_cons_zero, List.set_cons_succ]
    refine H.tk (i := 4) (v := .int .u8 y1) ?h4 hS ?_
    case h4 => exact (fun w hw => by go_simp)
    try simp only [Act.put, List.setIfInBounds_toArray, List.set_cons_zero, List.set_cons_succ]
    refine H.tk (i := 5) (v := .int .i64 y1) ?h5 hS ?_
    case h5 => exact (fun w hw => by go_simp)
    try simp only [Act.put, List.setIfInBounds_toArray, List.set_cons_zero, List.set_cons_succ]
    refine H.tk (i := 6) (v := (.int .i64 y0)) (fun w _ => rfl) hS ?_
    try simp only [Act.put, List.setIfInBounds_toArray, List.set_cons_zero, List.set_cons_succ]
    refine H.tk (i := 7) (v := (.int .i64 y1)) (fun w _ => rfl) hS ?_
    try simp only [Act.put, List.setIfInBounds_toArray, List.set_cons_zero, List.set_cons_succ]
    refine wpAnyH_done (by kernel_rfl) ?_ _
    clear hS i0 i1 v0 v1
    go_wp2_with fail
    refine (PG.out _).mono ?_
    rintro r w' ⟨rfl, rfl⟩
    go_wp2_with fail
    refine (PL.out _).mono ?_
    rintro r w' ⟨rfl, rfl⟩
    go_wp2_with fail
    refine (PB.out _).mono ?_
    rintro r w' ⟨rfl, rfl⟩
    go_wp2_with (first | (refine wpList_builtK rfl 38 _ rfl (M.cells M.zero) (by kernel_rfl) ?_) | (refine wpList_storeM (b := w.heap.size + 1) (m := M.zero) (m' := M.zero) rfl _ _ rfl rfl rfl HD.out.res ?_))
    exact bodyPost_ret (v := .tuple #[.agg M.zero.cells, .bool false, .int .i64 2]) (ret3 rfl _ _ (w.heap.size + 1) M.zero rfl (HD.out.res.put M.zero.cells) (.bool false) rfl (.int .i64 2) rfl) rfl (AnsB.no HY.out (Box.below_setRow HD.out.bel (by omega) _))
  have c9' : ¬ (s.size : Int) < 2 + (n : Int) := by omega
  have slt := sl_l s (2 + (n : Int)) (2 + n) s.size (by omega) (by omega) rfl
  have sla := sl_m s 2 (2 + (n : Int)) 2 (2 + n) rfl (by omega) (by omega) (by omega)
  have PS := Lib.hid (fun V => S6.rget_own (s.extract (2 + n) s.size) V (by simp; omega))
  obtain ⟨⟨l, kn, er⟩, ho⟩ : ∃ q, outS (s.extract (2 + n) s.size) = q := ⟨_, rfl⟩
  rw [ho] at PS
  rw [← hr] at ho
  by_cases he : er = 0
  rotate_left
  · have HY := Lib.hid (out_no (t := 9) (d := s) (end_sub hz' k3 g1 g2 (by rw [hr]; exact c9) ho he))
    have e1 : (er == 0) = false := by simpa using he
    have e2 : (er != 0) = true := by rw [bne, e1]; rfl
    clear he
    clear hr hn g1 g2 hcl ho
    generalize leastN (bt s 1) = ln at *
    generalize baseN (bt s 0) = bn at *
    generalize s.extract 2 (2 + n) = ea at *
    generalize s.extract (2 + n) s.size = er2 at *
    generalize bt s 0 = y0 at *
    generalize bt s 1 = y1 at *
    go_enter Tryz.func71, Tryz.ntmps71
    go_upto_region 1 with fail
    change Code.wp _ _ _ _ ((w.alloc (.cells (cellsT (a, (s, 9))) 79)).alloc (.cells M.zero.cells 38))
    have HD := Lib.hid (D.start (T := 38) (zs := M.zero.cells) w a 9 s)
    generalize (w.alloc (.cells (cellsT (a, (s, 9))) 79)).alloc (.cells M.zero.cells 38) = W at *
    have c0 := HD.out.tl.cell 0 (.int .i64 9) rfl
    have c2 := HD.out.tl.cell 2 (.string s) rfl
    go_upto_region 7 with fail
    clear c0 c2
    refine wp_region_held_drew (S := fun _ => True) (by kernel_rfl) trivial (fun hS => ?_)
    have HD := Lib.hid HD.out.drew
    generalize W.drew = W at *
    refine H.tk (i := 0) (v := ?v0) ?h0 hS ?_
    case h0 => (intro w hw; go_simp; first | done | (with_reducible rfl))
    try simp only [Act.put, List.setIfInBounds_toArray, List.set_cons_zero, List.set_cons_succ]
    refine H.tk (i := 1) (v := .int .u8 y0) ?h1 hS ?_
    case h1 => exact (fun w hw => by go_simp)
    try simp only [Act.put, List.setIfInBounds_toArray, List.set_cons_zero, List.set_cons_succ]
    refine H.tk (i := 2) (v := .int .i64 y0) ?h2 hS ?_
    case h2 => exact (fun w hw => by go_simp)
    try simp only [Act.put, List.setIfInBounds_toArray, List.set_cons_zero, List.set_cons_succ]
    refine H.tk (i := 3) (v := ?v3) ?h3 hS ?_
    case h3 => (intro w hw; go_simp; first | done | (with_reducible rfl))
    try simp only [Act.put, List.setIfInBounds_toArray, List.set_cons_zero, List.set_cons_succ]
    refine H.tk (i := 4) (v := .int .u8 y1) ?h4 hS ?_
    case h4 => exact (fun w hw => by go_simp)
    try simp only [Act.put, List.setIfInBounds_toArray, List.set_cons_zero, List.set_cons_succ]
    refine H.tk (i := 5) (v := .int .i64 y1) ?h5 hS ?_
    case h5 => exact (fun w hw => by go_simp)
    try simp only [Act.put, List.setIfInBounds_toArray, List.set_cons_zero, List.set_cons_succ]
    refine H.tk (i := 6) (v := (.int .i64 y0)) (fun w _ => rfl) hS ?_
    try simp only [Act.put, List.setIfInBounds_toArray, List.set_cons_zero, List.set_cons_succ]
    refine H.tk (i := 7) (v := (.int .i64 y1)) (fun w _ => rfl) hS ?_
    try simp only [Act.put, List.setIfInBounds_toArray, List.set_cons_zero, List.set_cons_succ]
    refine wpAnyH_done (by kernel_rfl) ?_ _
    clear hS i0 i1 v0 v1
    go_wp2_with fail
    refine (PG.out _).mono ?_
    rintro r w' ⟨rfl, rfl⟩
    go_wp2_with fail
    refine (PL.out _).mono ?_
    rintro r w' ⟨rfl, rfl⟩
    go_wp2_with fail
    refine (PB.out _).mono ?_
    rintro r w' ⟨rfl, rfl⟩
    go_wp2_with fail
    refine (PS.out _).mono ?_
    rintro e w4 ⟨sa, sc, rfl, hl, hb⟩
    have hsw := HD.out.bel.size
    have hrl := HD.out.res.lt
    have HD := Lib.hid (HD.out.call hb)
    have HL := Lib.hid hl
    clear hb hl PS
    simp only [] at HL
    go_wp2_with (first | (refine wpList_builtK rfl 38 _ rfl (M.cells M.zero) (by kernel_rfl) ?_) | (refine wpList_storeM (b := w.heap.size + 1) (m := M.zero) (m' := M.zero) rfl _ _ rfl rfl rfl HD.out.res ?_))
    exact bodyPost_ret (v := .tuple #[.agg M.zero.cells, .bool false, .int .i64 er]) (ret3 rfl _ _ (w.heap.size + 1) M.zero rfl (HD.out.res.put M.zero.cells) (.bool false) rfl (.int .i64 er) rfl) rfl (AnsB.no HY.out (Box.below_setRow HD.out.bel (by omega) _))
  subst he
  have HE := Lib.hid (end_yes hz' k3 g1 g2 (by rw [hr]; exact c9) ho)
  rw [hr] at HE
  cases kn
  · have HY := Lib.hid (out_not (t := 9) (d := s) HE.out (fun x => by cases x.1))
    clear HE
    clear hr hn g1 g2 hcl ho
    generalize leastN (bt s 1) = ln at *
    generalize baseN (bt s 0) = bn at *
    generalize s.extract 2 (2 + n) = ea at *
    generalize s.extract (2 + n) s.size = er2 at *
    generalize bt s 0 = y0 at *
    generalize bt s 1 = y1 at *
    go_enter Tryz.func71, Tryz.ntmps71
    go_upto_region 1 with fail
    change Code.wp _ _ _ _ ((w.alloc (.cells (cellsT (a, (s, 9))) 79)).alloc (.cells M.zero.cells 38))
    have HD := Lib.hid (D.start (T := 38) (zs := M.zero.cells) w a 9 s)
    generalize (w.alloc (.cells (cellsT (a, (s, 9))) 79)).alloc (.cells M.zero.cells 38) = W at *
    have c0 := HD.out.tl.cell 0 (.int .i64 9) rfl
    have c2 := HD.out.tl.cell 2 (.string s) rfl
    go_upto_region 7 with fail
    clear c0 c2
    refine wp_region_held_drew (S := fun _ => True) (by kernel_rfl) trivial (fun hS => ?_)
    have HD := Lib.hid HD.out.drew
    generalize W.drew = W at *
    refine H.tk (i := 0) (v := ?v0) ?h0 hS ?_
    case h0 => (intro w hw; go_simp; first | done | (with_reducible rfl))
    try simp only [Act.put, List.setIfInBounds_toArray, List.set_cons_zero, List.set_cons_succ]
    refine H.tk (i := 1) (v := .int .u8 y0) ?h1 hS ?_
    case h1 => exact (fun w hw => by go_simp)
    try simp only [Act.put, List.setIfInBounds_toArray, List.set_cons_zero, List.set_cons_succ]
    refine H.tk (i := 2) (v := .int .i64 y0) ?h2 hS ?_
    case h2 => exact (fun w hw => by go_simp)
    try simp only [Act.put, List.setIfInBounds_toArray, List.set_cons_zero, List.set_cons_succ]
    refine H.tk (i := 3) (v := ?v3) ?h3 hS ?_
    case h3 => (intro w hw; go_simp; first | done | (with_reducible rfl))
    try simp only [Act.put, List.setIfInBounds_toArray, List.set_cons_zero, List.set_cons_succ]
    refine H.tk (i := 4) (v := .int .u8 y1) ?h4 hS ?_
    case h4 => exact (fun w hw => by go_simp)
    try simp only [Act.put, List.setIfInBounds_toArray, List.set_cons_zero, List.set_cons_succ]
    refine H.tk (i := 5) (v := .int .i64 y1) ?h5 hS ?_
    case h5 => exact (fun w hw => by go_simp)
    try simp only [Act.put, List.setIfInBounds_toArray, List.set_cons_zero, List.set_cons_succ]
    refine H.tk (i := 6) (v := (.int .i64 y0)) (fun w _ => rfl) hS ?_
    try simp only [Act.put, List.setIfInBounds_toArray, List.set_cons_zero, List.set_cons_succ]
    refine H.tk (i := 7) (v := (.int .i64 y1)) (fun w _ => rfl) hS ?_
    try simp only [Act.put, List.setIfInBounds_toArray, List.set_cons_zero, List.set_cons_succ]
    refine wpAnyH_done (by kernel_rfl) ?_ _
    clear hS i0 i1 v0 v1
    go_wp2_with fail
    refine (PG.out _).mono ?_
    rintro r w' ⟨rfl, rfl⟩
    go_wp2_with fail
    refine (PL.out _).mono ?_
    rintro r w' ⟨rfl, rfl⟩
    go_wp2_with fail
    refine (PB.out _).mono ?_
    rintro r w' ⟨rfl, rfl⟩
    go_wp2_with fail
    refine (PS.out _).mono ?_
    rintro e w4 ⟨sa, sc, rfl, hl, hb⟩
    have hsw := HD.out.bel.size
    have hrl := HD.out.res.lt
    have HD := Lib.hid (HD.out.call hb)
    have HL := Lib.hid hl
    clear hb hl PS
    simp only [] at HL
    go_wp2_with (first | (refine wpList_builtK rfl 38 _ rfl (M.cells M.zero) (by kernel_rfl) ?_) | (refine wpList_storeM (b := w.heap.size + 1) (m := M.zero) (m' := M.zero) rfl _ _ rfl rfl rfl HD.out.res ?_))
    exact bodyPost_ret (v := .tuple #[.agg M.zero.cells, .bool false, .int .i64 0]) (ret3 rfl _ _ (w.heap.size + 1) M.zero rfl (HD.out.res.put M.zero.cells) (.bool false) rfl (.int .i64 0) rfl) rfl (AnsB.no HY.out (Box.below_setRow HD.out.bel (by omega) _))
  have PW := Lib.hid (fun V => rwhole_any (bt s 0) (s.extract 2 (2 + n)) (bt s 1) V g1 (by rw [ext_size _ _ _ (by omega), hn]; omega))
  have HY := Lib.hid (show outJ 9 s = ({ ({ M.zero with kind := 12, ae := bt s 0, pfx := wholeP (bt s 0) (s.extract 2 (2 + n)) (bt s 1), plen := bt s 1 } : M) with sl := l }, true, 0) by rw [out_yes HE.out rfl rfl]; rfl)
  clear HE
  generalize wholeP (bt s 0) (s.extract 2 (2 + n)) (bt s 1) = wp at *
  clear hr hn g1 g2 hcl ho
  generalize leastN (bt s 1) = ln at *
  generalize baseN (bt s 0) = bn at *
  generalize s.extract 2 (2 + n) = ea at *
  generalize s.extract (2 + n) s.size = er2 at *
  generalize bt s 0 = y0 at *
  generalize bt s 1 = y1 at *
  go_enter Tryz.func71, Tryz.ntmps71
  go_upto_region 1 with fail
  change Code.wp _ _ _ _ ((w.alloc (.cells (cellsT (a, (s, 9))) 79)).alloc (.cells M.zero.cells 38))
  have HD := Lib.hid (D.start (T := 38) (zs := M.zero.cells) w a 9 s)
  generalize (w.alloc (.cells (cellsT (a, (s, 9))) 79)).alloc (.cells M.zero.cells 38) = W at *
  have c0 := HD.out.tl.cell 0 (.int .i64 9) rfl
  have c2 := HD.out.tl.cell 2 (.string s) rfl
  go_upto_region 7 with fail
  clear c0 c2
  refine wp_region_held_drew (S := fun _ => True) (by kernel_rfl) trivial (fun hS => ?_)
  have HD := Lib.hid HD.out.drew
  generalize W.drew = W at *
  refine H.tk (i := 0) (v := ?v0) ?h0 hS ?_
  case h0 => (intro w hw; go_simp; first | done | (with_reducible rfl))
  try simp only [Act.put, List.setIfInBounds_toArray, List.set_cons_zero, List.set_cons_succ]
  refine H.tk (i := 1) (v := .int .u8 y0) ?h1 hS ?_
  case h1 => exact (fun w hw => by go_simp)
  try simp only [Act.put, List.setIfInBounds_toArray, List.set_cons_zero, List.set_cons_succ]
  refine H.tk (i := 2) (v := .int .i64 y0) ?h2 hS ?_
  case h2 => exact (fun w hw => by go_simp)
  try simp only [Act.put, List.setIfInBounds_toArray, List.set_cons_zero, List.set_cons_succ]
  refine H.tk (i := 3) (v := ?v3) ?h3 hS ?_
  case h3 => (intro w hw; go_simp; first | done | (with_reducible rfl))
  try simp only [Act.put, List.setIfInBounds_toArray, List.set_cons_zero, List.set_cons_succ]
  refine H.tk (i := 4) (v := .int .u8 y1) ?h4 hS ?_
  case h4 => exact (fun w hw => by go_simp)
  try simp only [Act.put, List.setIfInBounds_toArray, List.set_cons_zero, List.set_cons_succ]
  refine H.tk (i := 5) (v := .int .i64 y1) ?h5 hS ?_
  case h5 => exact (fun w hw => by go_simp)
  try simp only [Act.put, List.setIfInBounds_toArray, List.set_cons_zero, List.set_cons_succ]
  refine H.tk (i := 6) (v := (.int .i64 y0)) (fun w _ => rfl) hS ?_
  try simp only [Act.put, List.setIfInBounds_toArray, List.set_cons_zero, List.set_cons_succ]
  refine H.tk (i := 7) (v := (.int .i64 y1)) (fun w _ => rfl) hS ?_
  try simp only [Act.put, List.setIfInBounds_toArray, List.set_cons_zero, List.set_cons_succ]
  refine wpAnyH_done (by kernel_rfl) ?_ _
  clear hS i0 i1 v0 v1
  go_wp2_with fail
  refine (PG.out _).mono ?_
  rintro r w' ⟨rfl, rfl⟩
  go_wp2_with fail
  refine (PL.out _).mono ?_
  rintro r w' ⟨rfl, rfl⟩
  go_wp2_with fail
  refine (PB.out _).mono ?_
  rintro r w' ⟨rfl, rfl⟩
  go_wp2_with fail
  refine (PS.out _).mono ?_
  rintro e w4 ⟨sa, sc, rfl, hl, hb⟩
  have hsw := HD.out.bel.size
  have hrl := HD.out.res.lt
  have HD := Lib.hid (HD.out.call hb)
  have HL := Lib.hid hl
  clear hb hl PS
  simp only [] at HL
  go_wp2_with fail
  refine (PW.out _).mono ?_
  rintro e w5 ⟨rfl, hb⟩
  have HD := Lib.hid (HD.out.call hb)
  have HL := Lib.hid (HL.out.below hb)
  clear hb PW
  go_upto_region 19 with (first | (refine wpList_builtK rfl 38 _ rfl (M.cells { M.zero with kind := 12, ae := y0, pfx := wp, plen := y1, sa := sa, sl := l, sc := sc }) (by kernel_rfl) ?_) | (change wpList _ _ _ _ _ (w5.alloc (.cells M.zero.cells 38)); refine wpList_storeM (b := w5.heap.size) (m := M.zero) (m' := { M.zero with kind := 12, ae := y0, pfx := wp, plen := y1, sa := sa, sl := l, sc := sc }) rfl _ _ rfl rfl rfl (Bx.new w5 M.zero) ?_))
  rw [World.setRow_alloc_new]
  have XM := Lib.hid (Bx.new w5 { M.zero with kind := 12, ae := y0, pfx := wp, plen := y1, sa := sa, sl := l, sc := sc })
  have hg := HD.out.res.lt
  have bel := balloc (Below.refl w5.heap.size w5) (.cells (M.cells { M.zero with kind := 12, ae := y0, pfx := wp, plen := y1, sa := sa, sl := l, sc := sc }) 38)
  have HD := Lib.hid (HD.out.call bel)
  have HLf := Lib.hid (fun W' (h : Below w5.heap.size w5 W') => HL.out.below h)
  have BL := Lib.hid bel
  clear bel HL
  generalize w5.alloc (.cells (M.cells { M.zero with kind := 12, ae := y0, pfx := wp, plen := y1, sa := sa, sl := l, sc := sc }) 38) = V at *
  generalize w5.heap.size = g at *
  have c0 := HD.out.tl.cell 0 (.int .i64 9) rfl
  go_wp2_with (first | (refine wpList_loadM (b := g) (m := { M.zero with kind := 12, ae := y0, pfx := wp, plen := y1, sa := sa, sl := l, sc := sc }) rfl _ rfl rfl XM.out ?_) | (refine wpList_storeM (b := w.heap.size + 1) (m := M.zero) (m' := { M.zero with kind := 12, ae := y0, pfx := wp, plen := y1, sa := sa, sl := l, sc := sc }) rfl _ _ rfl rfl rfl HD.out.res ?_))
  exact bodyPost_ret (v := .tuple #[.agg (M.cells { M.zero with kind := 12, ae := y0, pfx := wp, plen := y1, sa := sa, sl := l, sc := sc }), .bool true, .int .i64 0]) (ret3 rfl _ _ (w.heap.size + 1) { M.zero with kind := 12, ae := y0, pfx := wp, plen := y1, sa := sa, sl := l, sc := sc } rfl (HD.out.res.put (M.cells { M.zero with kind := 12, ae := y0, pfx := wp, plen := y1, sa := sa, sl := l, sc := sc })) (.bool true) rfl (.int .i64 0) rfl) rfl (AnsB.subs (r := { M.zero with kind := 12, ae := y0, pfx := wp, plen := y1 }) HY.out (lst_under (HLf.out _ BL.out) (by omega) _) hsw (Box.below_setRow HD.out.bel (by omega) _))
set_option maxHeartbeats 25600000 in
theorem rget_10 (a : Int) (s : ByteArray) (w : World) (hs : s.size ≤ 100000) : Calls Tryz.prog 71 #[.agg (cellsT (a, (s, 10)))] w (AnsB (outJ 10 s) w) := by
  have szt : szJ 10 = 14 := rfl
  by_cases hz : s.size < 14
  · have HY := Lib.hid (out_no (t := 10) (d := s) (end_short (by rw [szt]; exact hz)))
    go_enter Tryz.func71, Tryz.ntmps71
    go_upto_region 1 with fail
    change Code.wp _ _ _ _ ((w.alloc (.cells (cellsT (a, (s, 10))) 79)).alloc (.cells M.zero.cells 38))
    have HD := Lib.hid (D.start (T := 38) (zs := M.zero.cells) w a 10 s)
    generalize (w.alloc (.cells (cellsT (a, (s, 10))) 79)).alloc (.cells M.zero.cells 38) = W at *
    have c0 := HD.out.tl.cell 0 (.int .i64 10) rfl
    have c2 := HD.out.tl.cell 2 (.string s) rfl
    go_wp2_with (first | (refine wpList_builtK rfl 38 _ rfl (M.cells M.zero) (by kernel_rfl) ?_) | (refine wpList_storeM (b := w.heap.size + 1) (m := M.zero) (m' := M.zero) rfl _ _ rfl rfl rfl HD.out.res ?_))
    exact bodyPost_ret (v := .tuple #[.agg M.zero.cells, .bool false, .int .i64 2]) (ret3 rfl _ _ (w.heap.size + 1) M.zero rfl (HD.out.res.put M.zero.cells) (.bool false) rfl (.int .i64 2) rfl) rfl (AnsB.no HY.out (Box.below_setRow HD.out.bel (by omega) _))
  have hz' : ¬ s.size < szJ 10 := by rw [szt]; exact hz
  have i0 := idx s 0 0 rfl (by omega)
  have i1 := idx s 1 1 rfl (by omega)
  have b0 := bt_nn s 0
  have b1 := bt_lt s 0
  have b2 := bt_nn s 1
  have b3 := bt_lt s 1
  have v0 := conv8 (bt s 0) b0 b1
  have v1 := conv8 (bt s 1) b2 b3
  by_cases k3 : 3 < bt s 0
  · have HY := Lib.hid (out_no (t := 10) (d := s) (end_none hz' k3))
    generalize bt s 0 = y0 at *
    generalize bt s 1 = y1 at *
    go_enter Tryz.func71, Tryz.ntmps71
    go_upto_region 1 with fail
    change Code.wp _ _ _ _ ((w.alloc (.cells (cellsT (a, (s, 10))) 79)).alloc (.cells M.zero.cells 38))
    have HD := Lib.hid (D.start (T := 38) (zs := M.zero.cells) w a 10 s)
    generalize (w.alloc (.cells (cellsT (a, (s, 10))) 79)).alloc (.cells M.zero.cells 38) = W at *
    have c0 := HD.out.tl.cell 0 (.int .i64 10) rfl
    have c2 := HD.out.tl.cell 2 (.string s) rfl
    go_upto_region 7 with fail
    clear c0 c2
    refine wp_region_held_drew (S := fun _ => True) (by kernel_rfl) trivial (fun hS => ?_)
    have HD := Lib.hid HD.out.drew
    generalize W.drew = W at *
    refine H.tk (i := 0) (v := ?v0) ?h0 hS ?_
    case h0 => (intro w hw; go_simp; first | done | (with_reducible rfl))
    try simp only [Act.put, List.setIfInBounds_toArray, List.set_cons_zero, List.set_cons_succ]
    refine H.tk (i := 1) (v := .int .u8 y0) ?h1 hS ?_
    case h1 => exact (fun w hw => by go_simp)
    try simp only [Act.put, List.setIfInBounds_toArray, List.set_cons_zero, List.set_cons_succ]
    refine H.tk (i := 2) (v := .int .i64 y0) ?h2 hS ?_
    case h2 => exact (fun w hw => by go_simp)
    try simp only [Act.put, List.setIfInBounds_toArray, List.set_cons_zero, List.set_cons_succ]
    refine H.tk (i := 3) (v := ?v3) ?h3 hS ?_
    case h3 => (intro w hw; go_simp; first | done | (with_reducible rfl))
    try simp only [Act.put, List.setIfInBounds_toArray, List.set_cons_zero, List.set_cons_succ]
    refine H.tk (i := 4) (v := .int .u8 y1) ?h4 hS ?_
    case h4 => exact (fun w hw => by go_simp)
    try simp only [Act.put, List.setIfInBounds_toArray, List.set_cons_zero, List.set_cons_succ]
    refine H.tk (i := 5) (v := .int .i64 y1) ?h5 hS ?_
    case h5 => exact (fun w hw => by go_simp)
    try simp only [Act.put, List.setIfInBounds_toArray, List.set_cons_zero, List.set_cons_succ]
    refine H.tk (i := 6) (v := (.int .i64 y0)) (fun w _ => rfl) hS ?_
    try simp only [Act.put, List.setIfInBounds_toArray, List.set_cons_zero, List.set_cons_succ]
    refine H.tk (i := 7) (v := (.int .i64 y1)) (fun w _ => rfl) hS ?_
    try simp only [Act.put, List.setIfInBounds_toArray, List.set_cons_zero, List.set_cons_succ]
    refine wpAnyH_done (by kernel_rfl) ?_ _
    clear hS i0 i1 v0 v1
    go_wp2_with (first | (refine wpList_builtK rfl 38 _ rfl (M.cells M.zero) (by kernel_rfl) ?_) | (refine wpList_storeM (b := w.heap.size + 1) (m := M.zero) (m' := M.zero) rfl _ _ rfl rfl rfl HD.out.res ?_))
    exact bodyPost_ret (v := .tuple #[.agg M.zero.cells, .bool false, .int .i64 0]) (ret3 rfl _ _ (w.heap.size + 1) M.zero rfl (HD.out.res.put M.zero.cells) (.bool false) rfl (.int .i64 0) rfl) rfl (AnsB.no HY.out (Box.below_setRow HD.out.bel (by omega) _))
  have PG := Lib.hid (fun V => great_any (bt s 0) (bt s 1) V b0 (by omega) b2)
  cases g1 : lenB (bt s 0) (bt s 1)
  · have HY := Lib.hid (out_no (t := 10) (d := s) (end_range hz' k3 (.inl g1)))
    rw [g1] at PG
    clear g1
    generalize bt s 0 = y0 at *
    generalize bt s 1 = y1 at *
    go_enter Tryz.func71, Tryz.ntmps71
    go_upto_region 1 with fail
    change Code.wp _ _ _ _ ((w.alloc (.cells (cellsT (a, (s, 10))) 79)).alloc (.cells M.zero.cells 38))
    have HD := Lib.hid (D.start (T := 38) (zs := M.zero.cells) w a 10 s)
    generalize (w.alloc (.cells (cellsT (a, (s, 10))) 79)).alloc (.cells M.zero.cells 38) = W at *
    have c0 := HD.out.tl.cell 0 (.int .i64 10) rfl
    have c2 := HD.out.tl.cell 2 (.string s) rfl
    go_upto_region 7 with fail
    clear c0 c2
    refine wp_region_held_drew (S := fun _ => True) (by kernel_rfl) trivial (fun hS => ?_)
    have HD := Lib.hid HD.out.drew
    generalize W.drew = W at *
    refine H.tk (i := 0) (v := ?v0) ?h0 hS ?_
    case h0 => (intro w hw; go_simp; first | done | (with_reducible rfl))
    try simp only [Act.put, List.setIfInBounds_toArray, List.set_cons_zero, List.set_cons_succ]
    refine H.tk (i := 1) (v := .int .u8 y0) ?h1 hS ?_
    case h1 => exact (fun w hw => by go_simp)
    try simp only [Act.put, List.setIfInBounds_toArray, List.set_cons_zero, List.set_cons_succ]
    refine H.tk (i := 2) (v := .int .i64 y0) ?h2 hS ?_
    case h2 => exact (fun w hw => by go_simp)
    try simp only [Act.put, List.setIfInBounds_toArray, List.set_cons_zero, List.set_cons_succ]
    refine H.tk (i := 3) (v := ?v3) ?h3 hS ?_
    case h3 => (intro w hw; go_simp; first | done | (with_reducible rfl))
    try simp only [Act.put, List.setIfInBounds_toArray, List.set_cons_zero, List.set_cons_succ]
    refine H.tk (i := 4) (v := .int .u8 y1) ?h4 hS ?_
    case h4 => exact (fun w hw => by go_simp)
    try simp only [Act.put, List.setIfInBounds_toArray, List.set_cons_zero, List.set_cons_succ]
    refine H.tk (i := 5) (v := .int .i64 y1) ?h5 hS ?_
    case h5 => exact (fun w hw => by go_simp)
    try simp only [Act.put, List.setIfInBounds_toArray, List.set_cons_zero, List.set_cons_succ]
    refine H.tk (i := 6) (v := (.int .i64 y0)) (fun w _ => rfl) hS ?_
    try simp only [Act.put, List.setIfInBounds_toArray, List.set_cons_zero, List.set_cons_succ]
    refine H.tk (i := 7) (v := (.int .i64 y1)) (fun w _ => rfl) hS ?_
    try simp only [Act.put, List.setIfInBounds_toArray, List.set_cons_zero, List.set_cons_succ]
    refine wpAnyH_done (by kernel_rfl) ?_ _
    clear hS i0 i1 v0 v1
    go_wp2_with fail
    refine (PG.out _).mono ?_
    rintro r w' ⟨rfl, rfl⟩
    go_wp2_with (first | (refine wpList_builtK rfl 38 _ rfl (M.cells M.zero) (by kernel_rfl) ?_) | (refine wpList_storeM (b := w.heap.size + 1) (m := M.zero) (m' := M.zero) rfl _ _ rfl rfl rfl HD.out.res ?_))
    exact bodyPost_ret (v := .tuple #[.agg M.zero.cells, .bool false, .int .i64 6]) (ret3 rfl _ _ (w.heap.size + 1) M.zero rfl (HD.out.res.put M.zero.cells) (.bool false) rfl (.int .i64 6) rfl) rfl (AnsB.no HY.out (Box.below_setRow HD.out.bel (by omega) _))
  rw [g1] at PG
  have hcl := count_le g1
  have PL := Lib.hid (fun V => Pre.rleast_any (bt s 1) V (by omega))
  have PB := Lib.hid (fun V => base_any (bt s 0) V)
  obtain ⟨n, hn⟩ : ∃ n, countN (bt s 0) (bt s 1) = n := ⟨_, rfl⟩
  have hr : restN (szJ 10) (bt s 0) (bt s 1) 0 = 14 + n := by unfold restN; rw [hn, szt]; rfl
  have hw : wrap64 ((leastN (bt s 1) : Int) - (baseN (bt s 0) : Int)) = (n : Int) := by rw [IntWalk.wrap64_in _ ⟨by omega, by omega⟩]; omega
  have hn16 : n ≤ 16 := by omega
  have g2 : ¬ (countN (bt s 0) (bt s 1) : Int) < 0 := by omega
  by_cases c9 : s.size < 14 + n
  · have HY := Lib.hid (out_no (t := 10) (d := s) (end_cut hz' k3 g1 g2 (by rw [hr]; exact c9)))
    have c9' : (s.size : Int) < 14 + (n : Int) := by omega
    clear hr hn g1 g2 hcl
    generalize leastN (bt s 1) = ln at *
    generalize baseN (bt s 0) = bn at *
    generalize bt s 0 = y0 at *
    generalize bt s 1 = y1 at *
    go_enter Tryz.func71, Tryz.ntmps71
    go_upto_region 1 with fail
    change Code.wp _ _ _ _ ((w.alloc (.cells (cellsT (a, (s, 10))) 79)).alloc (.cells M.zero.cells 38))
    have HD := Lib.hid (D.start (T := 38) (zs := M.zero.cells) w a 10 s)
    generalize (w.alloc (.cells (cellsT (a, (s, 10))) 79)).alloc (.cells M.zero.cells 38) = W at *
    have c0 := HD.out.tl.cell 0 (.int .i64 10) rfl
    have c2 := HD.out.tl.cell 2 (.string s) rfl
    go_upto_region 7 with fail
    clear c0 c2
    refine wp_region_held_drew (S := fun _ => True) (by kernel_rfl) trivial (fun hS => ?_)
    have HD := Lib.hid HD.out.drew
    generalize W.drew = W at *
    refine H.tk (i := 0) (v := ?v0) ?h0 hS ?_
    case h0 => (intro w hw; go_simp; first | done | (with_reducible rfl))
    try simp only [Act.put, List.setIfInBounds_toArray, List.set_cons_zero, List.set_cons_succ]
    refine H.tk (i := 1) (v := .int .u8 y0) ?h1 hS ?_
    case h1 => exact (fun w hw => by go_simp)
    try simp only [Act.put, List.setIfInBounds_toArray, List.set_cons_zero, List.set_cons_succ]
    refine H.tk (i := 2) (v := .int .i64 y0) ?h2 hS ?_
    case h2 => exact (fun w hw => by go_simp)
    try simp only [Act.put, List.setIfInBounds_toArray, List.set_cons_zero, List.set_cons_succ]
    refine H.tk (i := 3) (v := ?v3) ?h3 hS ?_
    case h3 => (intro w hw; go_simp; first | done | (with_reducible rfl))
    try simp only [Act.put, List.setIfInBounds_toArray, List.set_cons_zero, List.set_cons_succ]
    refine H.tk (i := 4) (v := .int .u8 y1) ?h4 hS ?_
    case h4 => exact (fun w hw => by go_simp)
    try simp only [Act.put, List.setIfInBounds_toArray, List.set_cons_zero, List.set_cons_succ]
    refine H.tk (i := 5) (v := .int .i64 y1) ?h5 hS ?_
    case h5 => exact (fun w hw => by go_simp)
    try simp only [Act.put, List.setIfInBounds_toArray, List.set_cons_zero, List.set_cons_succ]
    refine H.tk (i := 6) (v := (.int .i64 y0)) (fun w _ => rfl) hS ?_
    try simp only [Act.put, List.setIfInBounds_toArray, List.set_cons_zero, List.set_cons_succ]
    refine H.tk (i := 7) (v := (.int .i64 y1)) (fun w _ => rfl) hS ?_
    try simp only [Act.put, List.setIfInBounds_toArray, List.set_cons_zero, List.set_cons_succ]
    refine wpAnyH_done (by kernel_rfl) ?_ _
    clear hS i0 i1 v0 v1
    go_wp2_with fail
    refine (PG.out _).mono ?_
    rintro r w' ⟨rfl, rfl⟩
    go_wp2_with fail
    refine (PL.out _).mono ?_
    rintro r w' ⟨rfl, rfl⟩
    go_wp2_with fail
    refine (PB.out _).mono ?_
    rintro r w' ⟨rfl, rfl⟩
    go_wp2_with (first | (refine wpList_builtK rfl 38 _ rfl (M.cells M.zero) (by kernel_rfl) ?_) | (refine wpList_storeM (b := w.heap.size + 1) (m := M.zero) (m' := M.zero) rfl _ _ rfl rfl rfl HD.out.res ?_))
    exact bodyPost_ret (v := .tuple #[.agg M.zero.cells, .bool false, .int .i64 2]) (ret3 rfl _ _ (w.heap.size + 1) M.zero rfl (HD.out.res.put M.zero.cells) (.bool false) rfl (.int .i64 2) rfl) rfl (AnsB.no HY.out (Box.below_setRow HD.out.bel (by omega) _))
  have c9' : ¬ (s.size : Int) < 14 + (n : Int) := by omega
  have slt := sl_l s (14 + (n : Int)) (14 + n) s.size (by omega) (by omega) rfl
  have sla := sl_m s 14 (14 + (n : Int)) 14 (14 + n) rfl (by omega) (by omega) (by omega)
  have PS := Lib.hid (fun V => S6.rget_own (s.extract (14 + n) s.size) V (by simp; omega))
  obtain ⟨⟨l, kn, er⟩, ho⟩ : ∃ q, outS (s.extract (14 + n) s.size) = q := ⟨_, rfl⟩
  rw [ho] at PS
  rw [← hr] at ho
  by_cases he : er = 0
  rotate_left
  · have HY := Lib.hid (out_no (t := 10) (d := s) (end_sub hz' k3 g1 g2 (by rw [hr]; exact c9) ho he))
    have e1 : (er == 0) = false := by simpa using he
    have e2 : (er != 0) = true := by rw [bne, e1]; rfl
    clear he
    clear hr hn g1 g2 hcl ho
    generalize leastN (bt s 1) = ln at *
    generalize baseN (bt s 0) = bn at *
    generalize s.extract 14 (14 + n) = ea at *
    generalize s.extract (14 + n) s.size = er2 at *
    generalize bt s 0 = y0 at *
    generalize bt s 1 = y1 at *
    go_enter Tryz.func71, Tryz.ntmps71
    go_upto_region 1 with fail
    change Code.wp _ _ _ _ ((w.alloc (.cells (cellsT (a, (s, 10))) 79)).alloc (.cells M.zero.cells 38))
    have HD := Lib.hid (D.start (T := 38) (zs := M.zero.cells) w a 10 s)
    generalize (w.alloc (.cells (cellsT (a, (s, 10))) 79)).alloc (.cells M.zero.cells 38) = W at *
    have c0 := HD.out.tl.cell 0 (.int .i64 10) rfl
    have c2 := HD.out.tl.cell 2 (.string s) rfl
    go_upto_region 7 with fail
    clear c0 c2
    refine wp_region_held_drew (S := fun _ => True) (by kernel_rfl) trivial (fun hS => ?_)
    have HD := Lib.hid HD.out.drew
    generalize W.drew = W at *
    refine H.tk (i := 0) (v := ?v0) ?h0 hS ?_
    case h0 => (intro w hw; go_simp; first | done | (with_reducible rfl))
    try simp only [Act.put, List.setIfInBounds_toArray, List.set_cons_zero, List.set_cons_succ]
    refine H.tk (i := 1) (v := .int .u8 y0) ?h1 hS ?_
    case h1 => exact (fun w hw => by go_simp)
    try simp only [Act.put, List.setIfInBounds_toArray, List.set_cons_zero, List.set_cons_succ]
    refine H.tk (i := 2) (v := .int .i64 y0) ?h2 hS ?_
    case h2 => exact (fun w hw => by go_simp)
    try simp only [Act.put, List.setIfInBounds_toArray, List.set_cons_zero, List.set_cons_succ]
    refine H.tk (i := 3) (v := ?v3) ?h3 hS ?_
    case h3 => (intro w hw; go_simp; first | done | (with_reducible rfl))
    try simp only [Act.put, List.setIfInBounds_toArray, List.set_cons_zero, List.set_cons_succ]
    refine H.tk (i := 4) (v := .int .u8 y1) ?h4 hS ?_
    case h4 => exact (fun w hw => by go_simp)
    try simp only [Act.put, List.setIfInBounds_toArray, List.set_cons_zero, List.set_cons_succ]
    refine H.tk (i := 5) (v := .int .i64 y1) ?h5 hS ?_
    case h5 => exact (fun w hw => by go_simp)
    try simp only [Act.put, List.setIfInBounds_toArray, List.set_cons_zero, List.set_cons_succ]
    refine H.tk (i := 6) (v := (.int .i64 y0)) (fun w _ => rfl) hS ?_
    try simp only [Act.put, List.setIfInBounds_toArray, List.set_cons_zero, List.set_cons_succ]
    refine H.tk (i := 7) (v := (.int .i64 y1)) (fun w _ => rfl) hS ?_
    try simp only [Act.put, List.setIfInBounds_toArray, List.set_cons_zero, List.set_cons_succ]
    refine wpAnyH_done (by kernel_rfl) ?_ _
    clear hS i0 i1 v0 v1
    go_wp2_with fail
    refine (PG.out _).mono ?_
    rintro r w' ⟨rfl, rfl⟩
    go_wp2_with fail
    refine (PL.out _).mono ?_
    rintro r w' ⟨rfl, rfl⟩
    go_wp2_with fail
    refine (PB.out _).mono ?_
    rintro r w' ⟨rfl, rfl⟩
    go_wp2_with fail
    refine (PS.out _).mono ?_
    rintro e w4 ⟨sa, sc, rfl, hl, hb⟩
    have hsw := HD.out.bel.size
    have hrl := HD.out.res.lt
    have HD := Lib.hid (HD.out.call hb)
    have HL := Lib.hid hl
    clear hb hl PS
    simp only [] at HL
    go_wp2_with (first | (refine wpList_builtK rfl 38 _ rfl (M.cells M.zero) (by kernel_rfl) ?_) | (refine wpList_storeM (b := w.heap.size + 1) (m := M.zero) (m' := M.zero) rfl _ _ rfl rfl rfl HD.out.res ?_))
    exact bodyPost_ret (v := .tuple #[.agg M.zero.cells, .bool false, .int .i64 er]) (ret3 rfl _ _ (w.heap.size + 1) M.zero rfl (HD.out.res.put M.zero.cells) (.bool false) rfl (.int .i64 er) rfl) rfl (AnsB.no HY.out (Box.below_setRow HD.out.bel (by omega) _))
  subst he
  have HE := Lib.hid (end_yes hz' k3 g1 g2 (by rw [hr]; exact c9) ho)
  rw [hr] at HE
  cases kn
  · have HY := Lib.hid (out_not (t := 10) (d := s) HE.out (fun x => by cases x.1))
    clear HE
    clear hr hn g1 g2 hcl ho
    generalize leastN (bt s 1) = ln at *
    generalize baseN (bt s 0) = bn at *
    generalize s.extract 14 (14 + n) = ea at *
    generalize s.extract (14 + n) s.size = er2 at *
    generalize bt s 0 = y0 at *
    generalize bt s 1 = y1 at *
    go_enter Tryz.func71, Tryz.ntmps71
    go_upto_region 1 with fail
    change Code.wp _ _ _ _ ((w.alloc (.cells (cellsT (a, (s, 10))) 79)).alloc (.cells M.zero.cells 38))
    have HD := Lib.hid (D.start (T := 38) (zs := M.zero.cells) w a 10 s)
    generalize (w.alloc (.cells (cellsT (a, (s, 10))) 79)).alloc (.cells M.zero.cells 38) = W at *
    have c0 := HD.out.tl.cell 0 (.int .i64 10) rfl
    have c2 := HD.out.tl.cell 2 (.string s) rfl
    go_upto_region 7 with fail
    clear c0 c2
    refine wp_region_held_drew (S := fun _ => True) (by kernel_rfl) trivial (fun hS => ?_)
    have HD := Lib.hid HD.out.drew
    generalize W.drew = W at *
    refine H.tk (i := 0) (v := ?v0) ?h0 hS ?_
    case h0 => (intro w hw; go_simp; first | done | (with_reducible rfl))
    try simp only [Act.put, List.setIfInBounds_toArray, List.set_cons_zero, List.set_cons_succ]
    refine H.tk (i := 1) (v := .int .u8 y0) ?h1 hS ?_
    case h1 => exact (fun w hw => by go_simp)
    try simp only [Act.put, List.setIfInBounds_toArray, List.set_cons_zero, List.set_cons_succ]
    refine H.tk (i := 2) (v := .int .i64 y0) ?h2 hS ?_
    case h2 => exact (fun w hw => by go_simp)
    try simp only [Act.put, List.setIfInBounds_toArray, List.set_cons_zero, List.set_cons_succ]
    refine H.tk (i := 3) (v := ?v3) ?h3 hS ?_
    case h3 => (intro w hw; go_simp; first | done | (with_reducible rfl))
    try simp only [Act.put, List.setIfInBounds_toArray, List.set_cons_zero, List.set_cons_succ]
    refine H.tk (i := 4) (v := .int .u8 y1) ?h4 hS ?_
    case h4 => exact (fun w hw => by go_simp)
    try simp only [Act.put, List.setIfInBounds_toArray, List.set_cons_zero, List.set_cons_succ]
    refine H.tk (i := 5) (v := .int .i64 y1) ?h5 hS ?_
    case h5 => exact (fun w hw => by go_simp)
    try simp only [Act.put, List.setIfInBounds_toArray, List.set_cons_zero, List.set_cons_succ]
    refine H.tk (i := 6) (v := (.int .i64 y0)) (fun w _ => rfl) hS ?_
    try simp only [Act.put, List.setIfInBounds_toArray, List.set_cons_zero, List.set_cons_succ]
    refine H.tk (i := 7) (v := (.int .i64 y1)) (fun w _ => rfl) hS ?_
    try simp only [Act.put, List.setIfInBounds_toArray, List.set_cons_zero, List.set_cons_succ]
    refine wpAnyH_done (by kernel_rfl) ?_ _
    clear hS i0 i1 v0 v1
    go_wp2_with fail
    refine (PG.out _).mono ?_
    rintro r w' ⟨rfl, rfl⟩
    go_wp2_with fail
    refine (PL.out _).mono ?_
    rintro r w' ⟨rfl, rfl⟩
    go_wp2_with fail
    refine (PB.out _).mono ?_
    rintro r w' ⟨rfl, rfl⟩
    go_wp2_with fail
    refine (PS.out _).mono ?_
    rintro e w4 ⟨sa, sc, rfl, hl, hb⟩
    have hsw := HD.out.bel.size
    have hrl := HD.out.res.lt
    have HD := Lib.hid (HD.out.call hb)
    have HL := Lib.hid hl
    clear hb hl PS
    simp only [] at HL
    go_wp2_with (first | (refine wpList_builtK rfl 38 _ rfl (M.cells M.zero) (by kernel_rfl) ?_) | (refine wpList_storeM (b := w.heap.size + 1) (m := M.zero) (m' := M.zero) rfl _ _ rfl rfl rfl HD.out.res ?_))
    exact bodyPost_ret (v := .tuple #[.agg M.zero.cells, .bool false, .int .i64 0]) (ret3 rfl _ _ (w.heap.size + 1) M.zero rfl (HD.out.res.put M.zero.cells) (.bool false) rfl (.int .i64 0) rfl) rfl (AnsB.no HY.out (Box.below_setRow HD.out.bel (by omega) _))
  have PW := Lib.hid (fun V => rwhole_any (bt s 0) (s.extract 14 (14 + n)) (bt s 1) V g1 (by rw [ext_size _ _ _ (by omega), hn]; omega))
  have p1 := rnum2 s 2 4 rfl
  have P1 := Lib.hid p1
  have s1 := sl_m s 2 4 2 4 rfl rfl (by omega) (by omega)
  have s2 := sl_m s 6 14 6 14 rfl rfl (by omega) (by omega)
  have i4 := idx s 4 4 rfl (by omega)
  have b4 := bt_nn s 4
  have b5 := bt_lt s 4
  have v4 := conv8 (bt s 4) b4 b5
  have HKB := kind_ten (d := s) (by omega)
  have HQ := Lib.hid (fun (k : ¬ (!decide (bt s 0 = 0) && !decide (bt s 4 = 0)) = true) => out_not (t := 10) (d := s) HE.out (fun x => by rw [HKB] at x; exact k x.2))
  have HQ2 := Lib.hid (fun (k : (!decide (bt s 0 = 0) && !decide (bt s 4 = 0)) = true) => show outJ 10 s = ({ ({ M.zero with kind := 13, ae := bt s 0, pfx := wholeP (bt s 0) (s.extract 14 (14 + n)) (bt s 1), plen := bt s 1, id := s.extract 6 14, seq := num2 s 2, hops := bt s 4 } : M) with sl := l }, true, 0) from by rw [out_yes HE.out rfl (by rw [HKB]; exact k)]; rfl)
  clear HE HKB p1
  generalize wholeP (bt s 0) (s.extract 14 (14 + n)) (bt s 1) = wp at *
  generalize bt s 4 = y4 at *
  generalize num2 s 2 = y2 at *
  generalize s.extract 2 4 = e24 at *
  generalize s.extract 6 14 = ei at *
  clear hr hn g1 g2 hcl ho
  generalize leastN (bt s 1) = ln at *
  generalize baseN (bt s 0) = bn at *
  generalize s.extract 14 (14 + n) = ea at *
  generalize s.extract (14 + n) s.size = er2 at *
  generalize bt s 0 = y0 at *
  generalize bt s 1 = y1 at *
  by_cases z0 : y0 = 0
  · have HY := Lib.hid (HQ.out (fun k => by rw [z0] at k; cases k))
    clear HQ HQ2
    subst z0
    go_enter Tryz.func71, Tryz.ntmps71
    go_upto_region 1 with fail
    change Code.wp _ _ _ _ ((w.alloc (.cells (cellsT (a, (s, 10))) 79)).alloc (.cells M.zero.cells 38))
    have HD := Lib.hid (D.start (T := 38) (zs := M.zero.cells) w a 10 s)
    generalize (w.alloc (.cells (cellsT (a, (s, 10))) 79)).alloc (.cells M.zero.cells 38) = W at *
    have c0 := HD.out.tl.cell 0 (.int .i64 10) rfl
    have c2 := HD.out.tl.cell 2 (.string s) rfl
    go_upto_region 7 with fail
    clear c0 c2
    refine wp_region_held_drew (S := fun _ => True) (by kernel_rfl) trivial (fun hS => ?_)
    have HD := Lib.hid HD.out.drew
    generalize W.drew = W at *
    refine H.tk (i := 0) (v := ?v0) ?h0 hS ?_
    case h0 => (intro w hw; go_simp; first | done | (with_reducible rfl))
    try simp only [Act.put, List.setIfInBounds_toArray, List.set_cons_zero, List.set_cons_succ]
    refine H.tk (i := 1) (v := .int .u8 0) ?h1 hS ?_
    case h1 => exact (fun w hw => by go_simp)
    try simp only [Act.put, List.setIfInBounds_toArray, List.set_cons_zero, List.set_cons_succ]
    refine H.tk (i := 2) (v := .int .i64 0) ?h2 hS ?_
    case h2 => exact (fun w hw => by go_simp)
    try simp only [Act.put, List.setIfInBounds_toArray, List.set_cons_zero, List.set_cons_succ]
    refine H.tk (i := 3) (v := ?v3) ?h3 hS ?_
    case h3 => (intro w hw; go_simp; first | done | (with_reducible rfl))
    try simp only [Act.put, List.setIfInBounds_toArray, List.set_cons_zero, List.set_cons_succ]
    refine H.tk (i := 4) (v := .int .u8 y1) ?h4 hS ?_
    case h4 => exact (fun w hw => by go_simp)
    try simp only [Act.put, List.setIfInBounds_toArray, List.set_cons_zero, List.set_cons_succ]
    refine H.tk (i := 5) (v := .int .i64 y1) ?h5 hS ?_
    case h5 => exact (fun w hw => by go_simp)
    try simp only [Act.put, List.setIfInBounds_toArray, List.set_cons_zero, List.set_cons_succ]
    refine H.tk (i := 6) (v := (.int .i64 0)) (fun w _ => rfl) hS ?_
    try simp only [Act.put, List.setIfInBounds_toArray, List.set_cons_zero, List.set_cons_succ]
    refine H.tk (i := 7) (v := (.int .i64 y1)) (fun w _ => rfl) hS ?_
    try simp only [Act.put, List.setIfInBounds_toArray, List.set_cons_zero, List.set_cons_succ]
    refine wpAnyH_done (by kernel_rfl) ?_ _
    clear hS i0 i1 v0 v1
    go_wp2_with fail
    refine (PG.out _).mono ?_
    rintro r w' ⟨rfl, rfl⟩
    go_wp2_with fail
    refine (PL.out _).mono ?_
    rintro r w' ⟨rfl, rfl⟩
    go_wp2_with fail
    refine (PB.out _).mono ?_
    rintro r w' ⟨rfl, rfl⟩
    go_wp2_with fail
    refine (PS.out _).mono ?_
    rintro e w4 ⟨sa, sc, rfl, hl, hb⟩
    have hsw := HD.out.bel.size
    have hrl := HD.out.res.lt
    have HD := Lib.hid (HD.out.call hb)
    have HL := Lib.hid hl
    clear hb hl PS
    simp only [] at HL
    go_wp2_with fail
    refine (PW.out _).mono ?_
    rintro e w5 ⟨rfl, hb⟩
    have HD := Lib.hid (HD.out.call hb)
    have HL := Lib.hid (HL.out.below hb)
    clear hb PW
    go_upto_region 19 with (first | (refine wpList_builtK rfl 38 _ rfl (M.cells { M.zero with kind := 12, ae := 0, pfx := wp, plen := y1, sa := sa, sl := l, sc := sc }) (by kernel_rfl) ?_) | (change wpList _ _ _ _ _ (w5.alloc (.cells M.zero.cells 38)); refine wpList_storeM (b := w5.heap.size) (m := M.zero) (m' := { M.zero with kind := 12, ae := 0, pfx := wp, plen := y1, sa := sa, sl := l, sc := sc }) rfl _ _ rfl rfl rfl (Bx.new w5 M.zero) ?_))
    rw [World.setRow_alloc_new]
    have XM := Lib.hid (Bx.new w5 { M.zero with kind := 12, ae := 0, pfx := wp, plen := y1, sa := sa, sl := l, sc := sc })
    have hg := HD.out.res.lt
    have bel := balloc (Below.refl w5.heap.size w5) (.cells (M.cells { M.zero with kind := 12, ae := 0, pfx := wp, plen := y1, sa := sa, sl := l, sc := sc }) 38)
    have HD := Lib.hid (HD.out.call bel)
    have HLf := Lib.hid (fun W' (h : Below w5.heap.size w5 W') => HL.out.below h)
    have BL := Lib.hid bel
    clear bel HL
    generalize w5.alloc (.cells (M.cells { M.zero with kind := 12, ae := 0, pfx := wp, plen := y1, sa := sa, sl := l, sc := sc }) 38) = V at *
    generalize w5.heap.size = g at *
    have c0 := HD.out.tl.cell 0 (.int .i64 10) rfl
    go_upto_region 20 with fail
    refine wp_region_held_drew (S := fun _ => True) (by kernel_rfl) trivial (fun hS => ?_)
    have XM := Lib.hid (show Bx V.drew g { M.zero with kind := 12, ae := 0, pfx := wp, plen := y1, sa := sa, sl := l, sc := sc } from XM.out)
    have HD := Lib.hid HD.out.drew
    have BL := Lib.hid BL.out.drew
    clear c0
    generalize V.drew = X0 at *
    refine H.tk (i := 0) (v := ?v0a) ?h0a hS ?_
    case h0a => (intro w hw; go_simp; first | done | (with_reducible rfl))
    try simp only [Act.put, List.setIfInBounds_toArray, List.set_cons_zero, List.set_cons_succ]
    refine H.tk (i := 1) (v := .string e24) ?h1a hS ?_
    case h1a => exact (fun w hw => by go_simp)
    try simp only [Act.put, List.setIfInBounds_toArray, List.set_cons_zero, List.set_cons_succ]
    refine H.tk (i := 3) (v := ?v3a) ?h3a hS ?_
    case h3a => (intro w hw; go_simp; first | done | (with_reducible rfl))
    try simp only [Act.put, List.setIfInBounds_toArray, List.set_cons_zero, List.set_cons_succ]
    refine H.tk (i := 4) (v := .int .u8 y4) ?h4a hS ?_
    case h4a => exact (fun w hw => by go_simp)
    try simp only [Act.put, List.setIfInBounds_toArray, List.set_cons_zero, List.set_cons_succ]
    refine H.tk (i := 5) (v := .int .i64 y4) ?h5a hS ?_
    case h5a => exact (fun w hw => by go_simp)
    try simp only [Act.put, List.setIfInBounds_toArray, List.set_cons_zero, List.set_cons_succ]
    refine H.tk (i := 6) (v := ?v6a) ?h6a hS ?_
    case h6a => (intro w hw; go_simp; first | done | (with_reducible rfl))
    try simp only [Act.put, List.setIfInBounds_toArray, List.set_cons_zero, List.set_cons_succ]
    refine H.tk (i := 7) (v := .string ei) ?h7a hS ?_
    case h7a => exact (fun w hw => by go_simp)
    try simp only [Act.put, List.setIfInBounds_toArray, List.set_cons_zero, List.set_cons_succ]
    refine H.tk (i := 8) (v := ?v8a) ?h8a hS ?_
    case h8a => (intro w hw; go_simp; first | done | (with_reducible rfl))
    try simp only [Act.put, List.setIfInBounds_toArray, List.set_cons_zero, List.set_cons_succ]
    refine wpAnyH_ready (rs := [2]) (by kernel_rfl) (by simp) ?_
    refine AllReadyH.cons rfl (fun K hK => ?_) AllReadyH.nil
    go_simp
    refine (P1.out _).mono ?_
    rintro e X1 ⟨rfl, rfl⟩
    refine hK.out _ _ trivial (fun _ => ?_)
    clear hK K
    try simp only [Act.put, List.setIfInBounds_toArray, List.set_cons_zero, List.set_cons_succ]
    refine wpAnyH_ready (rs := [9]) (by kernel_rfl) (by simp) ?_
    refine AllReadyH.cons rfl (fun K hK => ?_) AllReadyH.nil
    have cx := XM.out.cell 0 _ rfl
    have fx := XM.out.frozen 0
    go_simp
    have XM := Lib.hid (XM.out.set (i := 0) (v := .int .i64 13) (m' := { M.zero with kind := 13, ae := 0, pfx := wp, plen := y1, sa := sa, sl := l, sc := sc }) rfl)
    have HD := Lib.hid (HD.out.cell hg 0 (.int .i64 13))
    have BL := Lib.hid (BL.out.setCell (p := ⟨g, 0, none⟩) (Nat.le_refl _) (.int .i64 13))
    refine hK.out _ _ trivial (fun hS' => ?_)
    clear hK K hS cx fx
    have hS := hS'
    clear hS'
    generalize World.setCell _ ⟨g, 0, none⟩ _ = Y9 at *
    try simp only [Act.put, List.setIfInBounds_toArray, List.set_cons_zero, List.set_cons_succ]
    refine H.tk (i := 10) (v := ?v10a) ?h10a hS ?_
    case h10a => (intro w hw; go_simp; first | done | (with_reducible rfl))
    try simp only [Act.put, List.setIfInBounds_toArray, List.set_cons_zero, List.set_cons_succ]
    refine wpAnyH_ready (rs := [11]) (by kernel_rfl) (by simp) ?_
    refine AllReadyH.cons rfl (fun K hK => ?_) AllReadyH.nil
    have cx := XM.out.cell 12 _ rfl
    have fx := XM.out.frozen 12
    go_simp
    have XM := Lib.hid (XM.out.set (i := 12) (v := .int .i64 y2) (m' := { M.zero with kind := 13, ae := 0, pfx := wp, plen := y1, seq := y2, sa := sa, sl := l, sc := sc }) rfl)
    have HD := Lib.hid (HD.out.cell hg 12 (.int .i64 y2))
    have BL := Lib.hid (BL.out.setCell (p := ⟨g, 12, none⟩) (Nat.le_refl _) (.int .i64 y2))
    refine hK.out _ _ trivial (fun hS' => ?_)
    clear hK K hS cx fx
    have hS := hS'
    clear hS'
    generalize World.setCell _ ⟨g, 12, none⟩ _ = Y11 at *
    try simp only [Act.put, List.setIfInBounds_toArray, List.set_cons_zero, List.set_cons_succ]
    refine H.tk (i := 12) (v := ?v12a) ?h12a hS ?_
    case h12a => (intro w hw; go_simp; first | done | (with_reducible rfl))
    try simp only [Act.put, List.setIfInBounds_toArray, List.set_cons_zero, List.set_cons_succ]
    refine wpAnyH_ready (rs := [13]) (by kernel_rfl) (by simp) ?_
    refine AllReadyH.cons rfl (fun K hK => ?_) AllReadyH.nil
    have cx := XM.out.cell 16 _ rfl
    have fx := XM.out.frozen 16
    go_simp
    have XM := Lib.hid (XM.out.set (i := 16) (v := .int .i64 y4) (m' := { M.zero with kind := 13, ae := 0, pfx := wp, plen := y1, seq := y2, hops := y4, sa := sa, sl := l, sc := sc }) rfl)
    have HD := Lib.hid (HD.out.cell hg 16 (.int .i64 y4))
    have BL := Lib.hid (BL.out.setCell (p := ⟨g, 16, none⟩) (Nat.le_refl _) (.int .i64 y4))
    refine hK.out _ _ trivial (fun hS' => ?_)
    clear hK K hS cx fx
    have hS := hS'
    clear hS'
    generalize World.setCell _ ⟨g, 16, none⟩ _ = Y13 at *
    try simp only [Act.put, List.setIfInBounds_toArray, List.set_cons_zero, List.set_cons_succ]
    refine H.tk (i := 14) (v := ?v14a) ?h14a hS ?_
    case h14a => (intro w hw; go_simp; first | done | (with_reducible rfl))
    try simp only [Act.put, List.setIfInBounds_toArray, List.set_cons_zero, List.set_cons_succ]
    refine wpAnyH_ready (rs := [15]) (by kernel_rfl) (by simp) ?_
    refine AllReadyH.cons rfl (fun K hK => ?_) AllReadyH.nil
    have cx := XM.out.cell 11 _ rfl
    have fx := XM.out.frozen 11
    go_simp
    have XM := Lib.hid (XM.out.set (i := 11) (v := .string ei) (m' := { M.zero with kind := 13, ae := 0, pfx := wp, plen := y1, id := ei, seq := y2, hops := y4, sa := sa, sl := l, sc := sc }) rfl)
    have HD := Lib.hid (HD.out.cell hg 11 (.string ei))
    have BL := Lib.hid (BL.out.setCell (p := ⟨g, 11, none⟩) (Nat.le_refl _) (.string ei))
    refine hK.out _ _ trivial (fun hS' => ?_)
    clear hK K hS cx fx
    have hS := hS'
    clear hS'
    generalize World.setCell _ ⟨g, 11, none⟩ _ = Y15 at *
    try simp only [Act.put, List.setIfInBounds_toArray, List.set_cons_zero, List.set_cons_succ]
    refine wpAnyH_done (by kernel_rfl) ?_ _
    have c16 := XM.out.cs.c16
    go_wp2_with (first | (refine wpList_builtK rfl 38 _ rfl (M.cells M.zero) (by kernel_rfl) ?_) | (refine wpList_storeM (b := w.heap.size + 1) (m := M.zero) (m' := M.zero) rfl _ _ rfl rfl rfl HD.out.res ?_))
    exact bodyPost_ret (v := .tuple #[.agg M.zero.cells, .bool false, .int .i64 0]) (ret3 rfl _ _ (w.heap.size + 1) M.zero rfl (HD.out.res.put M.zero.cells) (.bool false) rfl (.int .i64 0) rfl) rfl (AnsB.no HY.out (Box.below_setRow HD.out.bel (by omega) _))
  have ez0 : (y0 == 0) = false := by simpa using z0
  by_cases z4 : y4 = 0
  · have HY := Lib.hid (HQ.out (fun k => by rw [z4] at k; simp at k))
    clear HQ HQ2
    subst z4
    go_enter Tryz.func71, Tryz.ntmps71
    go_upto_region 1 with fail
    change Code.wp _ _ _ _ ((w.alloc (.cells (cellsT (a, (s, 10))) 79)).alloc (.cells M.zero.cells 38))
    have HD := Lib.hid (D.start (T := 38) (zs := M.zero.cells) w a 10 s)
    generalize (w.alloc (.cells (cellsT (a, (s, 10))) 79)).alloc (.cells M.zero.cells 38) = W at *
    have c0 := HD.out.tl.cell 0 (.int .i64 10) rfl
    have c2 := HD.out.tl.cell 2 (.string s) rfl
    go_upto_region 7 with fail
    clear c0 c2
    refine wp_region_held_drew (S := fun _ => True) (by kernel_rfl) trivial (fun hS => ?_)
    have HD := Lib.hid HD.out.drew
    generalize W.drew = W at *
    refine H.tk (i := 0) (v := ?v0) ?h0 hS ?_
    case h0 => (intro w hw; go_simp; first | done | (with_reducible rfl))
    try simp only [Act.put, List.setIfInBounds_toArray, List.set_cons_zero, List.set_cons_succ]
    refine H.tk (i := 1) (v := .int .u8 y0) ?h1 hS ?_
    case h1 => exact (fun w hw => by go_simp)
    try simp only [Act.put, List.setIfInBounds_toArray, List.set_cons_zero, List.set_cons_succ]
    refine H.tk (i := 2) (v := .int .i64 y0) ?h2 hS ?_
    case h2 => exact (fun w hw => by go_simp)
    try simp only [Act.put, List.setIfInBounds_toArray, List.set_cons_zero, List.set_cons_succ]
    refine H.tk (i := 3) (v := ?v3) ?h3 hS ?_
    case h3 => (intro w hw; go_simp; first | done | (with_reducible rfl))
    try simp only [Act.put, List.setIfInBounds_toArray, List.set_cons_zero, List.set_cons_succ]
    refine H.tk (i := 4) (v := .int .u8 y1) ?h4 hS ?_
    case h4 => exact (fun w hw => by go_simp)
    try simp only [Act.put, List.setIfInBounds_toArray, List.set_cons_zero, List.set_cons_succ]
    refine H.tk (i := 5) (v := .int .i64 y1) ?h5 hS ?_
    case h5 => exact (fun w hw => by go_simp)
    try simp only [Act.put, List.setIfInBounds_toArray, List.set_cons_zero, List.set_cons_succ]
    refine H.tk (i := 6) (v := (.int .i64 y0)) (fun w _ => rfl) hS ?_
    try simp only [Act.put, List.setIfInBounds_toArray, List.set_cons_zero, List.set_cons_succ]
    refine H.tk (i := 7) (v := (.int .i64 y1)) (fun w _ => rfl) hS ?_
    try simp only [Act.put, List.setIfInBounds_toArray, List.set_cons_zero, List.set_cons_succ]
    refine wpAnyH_done (by kernel_rfl) ?_ _
    clear hS i0 i1 v0 v1
    go_wp2_with fail
    refine (PG.out _).mono ?_
    rintro r w' ⟨rfl, rfl⟩
    go_wp2_with fail
    refine (PL.out _).mono ?_
    rintro r w' ⟨rfl, rfl⟩
    go_wp2_with fail
    refine (PB.out _).mono ?_
    rintro r w' ⟨rfl, rfl⟩
    go_wp2_with fail
    refine (PS.out _).mono ?_
    rintro e w4 ⟨sa, sc, rfl, hl, hb⟩
    have hsw := HD.out.bel.size
    have hrl := HD.out.res.lt
    have HD := Lib.hid (HD.out.call hb)
    have HL := Lib.hid hl
    clear hb hl PS
    simp only [] at HL
    go_wp2_with fail
    refine (PW.out _).mono ?_
    rintro e w5 ⟨rfl, hb⟩
    have HD := Lib.hid (HD.out.call hb)
    have HL := Lib.hid (HL.out.below hb)
    clear hb PW
    go_upto_region 19 with (first | (refine wpList_builtK rfl 38 _ rfl (M.cells { M.zero with kind := 12, ae := y0, pfx := wp, plen := y1, sa := sa, sl := l, sc := sc }) (by kernel_rfl) ?_) | (change wpList _ _ _ _ _ (w5.alloc (.cells M.zero.cells 38)); refine wpList_storeM (b := w5.heap.size) (m := M.zero) (m' := { M.zero with kind := 12, ae := y0, pfx := wp, plen := y1, sa := sa, sl := l, sc := sc }) rfl _ _ rfl rfl rfl (Bx.new w5 M.zero) ?_))
    rw [World.setRow_alloc_new]
    have XM := Lib.hid (Bx.new w5 { M.zero with kind := 12, ae := y0, pfx := wp, plen := y1, sa := sa, sl := l, sc := sc })
    have hg := HD.out.res.lt
    have bel := balloc (Below.refl w5.heap.size w5) (.cells (M.cells { M.zero with kind := 12, ae := y0, pfx := wp, plen := y1, sa := sa, sl := l, sc := sc }) 38)
    have HD := Lib.hid (HD.out.call bel)
    have HLf := Lib.hid (fun W' (h : Below w5.heap.size w5 W') => HL.out.below h)
    have BL := Lib.hid bel
    clear bel HL
    generalize w5.alloc (.cells (M.cells { M.zero with kind := 12, ae := y0, pfx := wp, plen := y1, sa := sa, sl := l, sc := sc }) 38) = V at *
    generalize w5.heap.size = g at *
    have c0 := HD.out.tl.cell 0 (.int .i64 10) rfl
    go_upto_region 20 with fail
    refine wp_region_held_drew (S := fun _ => True) (by kernel_rfl) trivial (fun hS => ?_)
    have XM := Lib.hid (show Bx V.drew g { M.zero with kind := 12, ae := y0, pfx := wp, plen := y1, sa := sa, sl := l, sc := sc } from XM.out)
    have HD := Lib.hid HD.out.drew
    have BL := Lib.hid BL.out.drew
    clear c0
    generalize V.drew = X0 at *
    refine H.tk (i := 0) (v := ?v0b) ?h0b hS ?_
    case h0b => (intro w hw; go_simp; first | done | (with_reducible rfl))
    try simp only [Act.put, List.setIfInBounds_toArray, List.set_cons_zero, List.set_cons_succ]
    refine H.tk (i := 1) (v := .string e24) ?h1b hS ?_
    case h1b => exact (fun w hw => by go_simp)
    try simp only [Act.put, List.setIfInBounds_toArray, List.set_cons_zero, List.set_cons_succ]
    refine H.tk (i := 3) (v := ?v3b) ?h3b hS ?_
    case h3b => (intro w hw; go_simp; first | done | (with_reducible rfl))
    try simp only [Act.put, List.setIfInBounds_toArray, List.set_cons_zero, List.set_cons_succ]
    refine H.tk (i := 4) (v := .int .u8 0) ?h4b hS ?_
    case h4b => exact (fun w hw => by go_simp)
    try simp only [Act.put, List.setIfInBounds_toArray, List.set_cons_zero, List.set_cons_succ]
    refine H.tk (i := 5) (v := .int .i64 0) ?h5b hS ?_
    case h5b => exact (fun w hw => by go_simp)
    try simp only [Act.put, List.setIfInBounds_toArray, List.set_cons_zero, List.set_cons_succ]
    refine H.tk (i := 6) (v := ?v6b) ?h6b hS ?_
    case h6b => (intro w hw; go_simp; first | done | (with_reducible rfl))
    try simp only [Act.put, List.setIfInBounds_toArray, List.set_cons_zero, List.set_cons_succ]
    refine H.tk (i := 7) (v := .string ei) ?h7b hS ?_
    case h7b => exact (fun w hw => by go_simp)
    try simp only [Act.put, List.setIfInBounds_toArray, List.set_cons_zero, List.set_cons_succ]
    refine H.tk (i := 8) (v := ?v8b) ?h8b hS ?_
    case h8b => (intro w hw; go_simp; first | done | (with_reducible rfl))
    try simp only [Act.put, List.setIfInBounds_toArray, List.set_cons_zero, List.set_cons_succ]
    refine wpAnyH_ready (rs := [2]) (by kernel_rfl) (by simp) ?_
    refine AllReadyH.cons rfl (fun K hK => ?_) AllReadyH.nil
    go_simp
    refine (P1.out _).mono ?_
    rintro e X1 ⟨rfl, rfl⟩
    refine hK.out _ _ trivial (fun _ => ?_)
    clear hK K
    try simp only [Act.put, List.setIfInBounds_toArray, List.set_cons_zero, List.set_cons_succ]
    refine wpAnyH_ready (rs := [9]) (by kernel_rfl) (by simp) ?_
    refine AllReadyH.cons rfl (fun K hK => ?_) AllReadyH.nil
    have cx := XM.out.cell 0 _ rfl
    have fx := XM.out.frozen 0
    go_simp
    have XM := Lib.hid (XM.out.set (i := 0) (v := .int .i64 13) (m' := { M.zero with kind := 13, ae := y0, pfx := wp, plen := y1, sa := sa, sl := l, sc := sc }) rfl)
    have HD := Lib.hid (HD.out.cell hg 0 (.int .i64 13))
    have BL := Lib.hid (BL.out.setCell (p := ⟨g, 0, none⟩) (Nat.le_refl _) (.int .i64 13))
    refine hK.out _ _ trivial (fun hS' => ?_)
    clear hK K hS cx fx
    have hS := hS'
    clear hS'
    generalize World.setCell _ ⟨g, 0, none⟩ _ = Y9 at *
    try simp only [Act.put, List.setIfInBounds_toArray, List.set_cons_zero, List.set_cons_succ]
    refine H.tk (i := 10) (v := ?v10b) ?h10b hS ?_
    case h10b => (intro w hw; go_simp; first | done | (with_reducible rfl))
    try simp only [Act.put, List.setIfInBounds_toArray, List.set_cons_zero, List.set_cons_succ]
    refine wpAnyH_ready (rs := [11]) (by kernel_rfl) (by simp) ?_
    refine AllReadyH.cons rfl (fun K hK => ?_) AllReadyH.nil
    have cx := XM.out.cell 12 _ rfl
    have fx := XM.out.frozen 12
    go_simp
    have XM := Lib.hid (XM.out.set (i := 12) (v := .int .i64 y2) (m' := { M.zero with kind := 13, ae := y0, pfx := wp, plen := y1, seq := y2, sa := sa, sl := l, sc := sc }) rfl)
    have HD := Lib.hid (HD.out.cell hg 12 (.int .i64 y2))
    have BL := Lib.hid (BL.out.setCell (p := ⟨g, 12, none⟩) (Nat.le_refl _) (.int .i64 y2))
    refine hK.out _ _ trivial (fun hS' => ?_)
    clear hK K hS cx fx
    have hS := hS'
    clear hS'
    generalize World.setCell _ ⟨g, 12, none⟩ _ = Y11 at *
    try simp only [Act.put, List.setIfInBounds_toArray, List.set_cons_zero, List.set_cons_succ]
    refine H.tk (i := 12) (v := ?v12b) ?h12b hS ?_
    case h12b => (intro w hw; go_simp; first | done | (with_reducible rfl))
    try simp only [Act.put, List.setIfInBounds_toArray, List.set_cons_zero, List.set_cons_succ]
    refine wpAnyH_ready (rs := [13]) (by kernel_rfl) (by simp) ?_
    refine AllReadyH.cons rfl (fun K hK => ?_) AllReadyH.nil
    have cx := XM.out.cell 16 _ rfl
    have fx := XM.out.frozen 16
    go_simp
    have XM := Lib.hid (XM.out.set (i := 16) (v := .int .i64 0) (m' := { M.zero with kind := 13, ae := y0, pfx := wp, plen := y1, seq := y2, hops := 0, sa := sa, sl := l, sc := sc }) rfl)
    have HD := Lib.hid (HD.out.cell hg 16 (.int .i64 0))
    have BL := Lib.hid (BL.out.setCell (p := ⟨g, 16, none⟩) (Nat.le_refl _) (.int .i64 0))
    refine hK.out _ _ trivial (fun hS' => ?_)
    clear hK K hS cx fx
    have hS := hS'
    clear hS'
    generalize World.setCell _ ⟨g, 16, none⟩ _ = Y13 at *
    try simp only [Act.put, List.setIfInBounds_toArray, List.set_cons_zero, List.set_cons_succ]
    refine H.tk (i := 14) (v := ?v14b) ?h14b hS ?_
    case h14b => (intro w hw; go_simp; first | done | (with_reducible rfl))
    try simp only [Act.put, List.setIfInBounds_toArray, List.set_cons_zero, List.set_cons_succ]
    refine wpAnyH_ready (rs := [15]) (by kernel_rfl) (by simp) ?_
    refine AllReadyH.cons rfl (fun K hK => ?_) AllReadyH.nil
    have cx := XM.out.cell 11 _ rfl
    have fx := XM.out.frozen 11
    go_simp
    have XM := Lib.hid (XM.out.set (i := 11) (v := .string ei) (m' := { M.zero with kind := 13, ae := y0, pfx := wp, plen := y1, id := ei, seq := y2, hops := 0, sa := sa, sl := l, sc := sc }) rfl)
    have HD := Lib.hid (HD.out.cell hg 11 (.string ei))
    have BL := Lib.hid (BL.out.setCell (p := ⟨g, 11, none⟩) (Nat.le_refl _) (.string ei))
    refine hK.out _ _ trivial (fun hS' => ?_)
    clear hK K hS cx fx
    have hS := hS'
    clear hS'
    generalize World.setCell _ ⟨g, 11, none⟩ _ = Y15 at *
    try simp only [Act.put, List.setIfInBounds_toArray, List.set_cons_zero, List.set_cons_succ]
    refine wpAnyH_done (by kernel_rfl) ?_ _
    have c16 := XM.out.cs.c16
    go_wp2_with (first | (refine wpList_builtK rfl 38 _ rfl (M.cells M.zero) (by kernel_rfl) ?_) | (refine wpList_storeM (b := w.heap.size + 1) (m := M.zero) (m' := M.zero) rfl _ _ rfl rfl rfl HD.out.res ?_))
    exact bodyPost_ret (v := .tuple #[.agg M.zero.cells, .bool false, .int .i64 0]) (ret3 rfl _ _ (w.heap.size + 1) M.zero rfl (HD.out.res.put M.zero.cells) (.bool false) rfl (.int .i64 0) rfl) rfl (AnsB.no HY.out (Box.below_setRow HD.out.bel (by omega) _))
  have ez4 : (y4 == 0) = false := by simpa using z4
  have HY := Lib.hid (HQ2.out (by rw [decide_eq_false z0, decide_eq_false z4]; rfl))
  clear HQ HQ2
  go_enter Tryz.func71, Tryz.ntmps71
  go_upto_region 1 with fail
  change Code.wp _ _ _ _ ((w.alloc (.cells (cellsT (a, (s, 10))) 79)).alloc (.cells M.zero.cells 38))
  have HD := Lib.hid (D.start (T := 38) (zs := M.zero.cells) w a 10 s)
  generalize (w.alloc (.cells (cellsT (a, (s, 10))) 79)).alloc (.cells M.zero.cells 38) = W at *
  have c0 := HD.out.tl.cell 0 (.int .i64 10) rfl
  have c2 := HD.out.tl.cell 2 (.string s) rfl
  go_upto_region 7 with fail
  clear c0 c2
  refine wp_region_held_drew (S := fun _ => True) (by kernel_rfl) trivial (fun hS => ?_)
  have HD := Lib.hid HD.out.drew
  generalize W.drew = W at *
  refine H.tk (i := 0) (v := ?v0) ?h0 hS ?_
  case h0 => (intro w hw; go_simp; first | done | (with_reducible rfl))
  try simp only [Act.put, List.setIfInBounds_toArray, List.set_cons_zero, List.set_cons_succ]
  refine H.tk (i := 1) (v := .int .u8 y0) ?h1 hS ?_
  case h1 => exact (fun w hw => by go_simp)
  try simp only [Act.put, List.setIfInBounds_toArray, List.set_cons_zero, List.set_cons_succ]
  refine H.tk (i := 2) (v := .int .i64 y0) ?h2 hS ?_
  case h2 => exact (fun w hw => by go_simp)
  try simp only [Act.put, List.setIfInBounds_toArray, List.set_cons_zero, List.set_cons_succ]
  refine H.tk (i := 3) (v := ?v3) ?h3 hS ?_
  case h3 => (intro w hw; go_simp; first | done | (with_reducible rfl))
  try simp only [Act.put, List.setIfInBounds_toArray, List.set_cons_zero, List.set_cons_succ]
  refine H.tk (i := 4) (v := .int .u8 y1) ?h4 hS ?_
  case h4 => exact (fun w hw => by go_simp)
  try simp only [Act.put, List.setIfInBounds_toArray, List.set_cons_zero, List.set_cons_succ]
  refine H.tk (i := 5) (v := .int .i64 y1) ?h5 hS ?_
  case h5 => exact (fun w hw => by go_simp)
  try simp only [Act.put, List.setIfInBounds_toArray, List.set_cons_zero, List.set_cons_succ]
  refine H.tk (i := 6) (v := (.int .i64 y0)) (fun w _ => rfl) hS ?_
  try simp only [Act.put, List.setIfInBounds_toArray, List.set_cons_zero, List.set_cons_succ]
  refine H.tk (i := 7) (v := (.int .i64 y1)) (fun w _ => rfl) hS ?_
  try simp only [Act.put, List.setIfInBounds_toArray, List.set_cons_zero, List.set_cons_succ]
  refine wpAnyH_done (by kernel_rfl) ?_ _
  clear hS i0 i1 v0 v1
  go_wp2_with fail
  refine (PG.out _).mono ?_
  rintro r w' ⟨rfl, rfl⟩
  go_wp2_with fail
  refine (PL.out _).mono ?_
  rintro r w' ⟨rfl, rfl⟩
  go_wp2_with fail
  refine (PB.out _).mono ?_
  rintro r w' ⟨rfl, rfl⟩
  go_wp2_with fail
  refine (PS.out _).mono ?_
  rintro e w4 ⟨sa, sc, rfl, hl, hb⟩
  have hsw := HD.out.bel.size
  have hrl := HD.out.res.lt
  have HD := Lib.hid (HD.out.call hb)
  have HL := Lib.hid hl
  clear hb hl PS
  simp only [] at HL
  go_wp2_with fail
  refine (PW.out _).mono ?_
  rintro e w5 ⟨rfl, hb⟩
  have HD := Lib.hid (HD.out.call hb)
  have HL := Lib.hid (HL.out.below hb)
  clear hb PW
  go_upto_region 19 with (first | (refine wpList_builtK rfl 38 _ rfl (M.cells { M.zero with kind := 12, ae := y0, pfx := wp, plen := y1, sa := sa, sl := l, sc := sc }) (by kernel_rfl) ?_) | (change wpList _ _ _ _ _ (w5.alloc (.cells M.zero.cells 38)); refine wpList_storeM (b := w5.heap.size) (m := M.zero) (m' := { M.zero with kind := 12, ae := y0, pfx := wp, plen := y1, sa := sa, sl := l, sc := sc }) rfl _ _ rfl rfl rfl (Bx.new w5 M.zero) ?_))
  rw [World.setRow_alloc_new]
  have XM := Lib.hid (Bx.new w5 { M.zero with kind := 12, ae := y0, pfx := wp, plen := y1, sa := sa, sl := l, sc := sc })
  have hg := HD.out.res.lt
  have bel := balloc (Below.refl w5.heap.size w5) (.cells (M.cells { M.zero with kind := 12, ae := y0, pfx := wp, plen := y1, sa := sa, sl := l, sc := sc }) 38)
  have HD := Lib.hid (HD.out.call bel)
  have HLf := Lib.hid (fun W' (h : Below w5.heap.size w5 W') => HL.out.below h)
  have BL := Lib.hid bel
  clear bel HL
  generalize w5.alloc (.cells (M.cells { M.zero with kind := 12, ae := y0, pfx := wp, plen := y1, sa := sa, sl := l, sc := sc }) 38) = V at *
  generalize w5.heap.size = g at *
  have c0 := HD.out.tl.cell 0 (.int .i64 10) rfl
  go_upto_region 20 with fail
  refine wp_region_held_drew (S := fun _ => True) (by kernel_rfl) trivial (fun hS => ?_)
  have XM := Lib.hid (show Bx V.drew g { M.zero with kind := 12, ae := y0, pfx := wp, plen := y1, sa := sa, sl := l, sc := sc } from XM.out)
  have HD := Lib.hid HD.out.drew
  have BL := Lib.hid BL.out.drew
  clear c0
  generalize V.drew = X0 at *
  refine H.tk (i := 0) (v := ?v0c) ?h0c hS ?_
  case h0c => (intro w hw; go_simp; first | done | (with_reducible rfl))
  try simp only [Act.put, List.setIfInBounds_toArray, List.set_cons_zero, List.set_cons_succ]
  refine H.tk (i := 1) (v := .string e24) ?h1c hS ?_
  case h1c => exact (fun w hw => by go_simp)
  try simp only [Act.put, List.setIfInBounds_toArray, List.set_cons_zero, List.set_cons_succ]
  refine H.tk (i := 3) (v := ?v3c) ?h3c hS ?_
  case h3c => (intro w hw; go_simp; first | done | (with_reducible rfl))
  try simp only [Act.put, List.setIfInBounds_toArray, List.set_cons_zero, List.set_cons_succ]
  refine H.tk (i := 4) (v := .int .u8 y4) ?h4c hS ?_
  case h4c => exact (fun w hw => by go_simp)
  try simp only [Act.put, List.setIfInBounds_toArray, List.set_cons_zero, List.set_cons_succ]
  refine H.tk (i := 5) (v := .int .i64 y4) ?h5c hS ?_
  case h5c => exact (fun w hw => by go_simp)
  try simp only [Act.put, List.setIfInBounds_toArray, List.set_cons_zero, List.set_cons_succ]
  refine H.tk (i := 6) (v := ?v6c) ?h6c hS ?_
  case h6c => (intro w hw; go_simp; first | done | (with_reducible rfl))
  try simp only [Act.put, List.setIfInBounds_toArray, List.set_cons_zero, List.set_cons_succ]
  refine H.tk (i := 7) (v := .string ei) ?h7c hS ?_
  case h7c => exact (fun w hw => by go_simp)
  try simp only [Act.put, List.setIfInBounds_toArray, List.set_cons_zero, List.set_cons_succ]
  refine H.tk (i := 8) (v := ?v8c) ?h8c hS ?_
  case h8c => (intro w hw; go_simp; first | done | (with_reducible rfl))
  try simp only [Act.put, List.setIfInBounds_toArray, List.set_cons_zero, List.set_cons_succ]
  refine wpAnyH_ready (rs := [2]) (by kernel_rfl) (by simp) ?_
  refine AllReadyH.cons rfl (fun K hK => ?_) AllReadyH.nil
  go_simp
  refine (P1.out _).mono ?_
  rintro e X1 ⟨rfl, rfl⟩
  refine hK.out _ _ trivial (fun _ => ?_)
  clear hK K
  try simp only [Act.put, List.setIfInBounds_toArray, List.set_cons_zero, List.set_cons_succ]
  refine wpAnyH_ready (rs := [9]) (by kernel_rfl) (by simp) ?_
  refine AllReadyH.cons rfl (fun K hK => ?_) AllReadyH.nil
  have cx := XM.out.cell 0 _ rfl
  have fx := XM.out.frozen 0
  go_simp
  have XM := Lib.hid (XM.out.set (i := 0) (v := .int .i64 13) (m' := { M.zero with kind := 13, ae := y0, pfx := wp, plen := y1, sa := sa, sl := l, sc := sc }) rfl)
  have HD := Lib.hid (HD.out.cell hg 0 (.int .i64 13))
  have BL := Lib.hid (BL.out.setCell (p := ⟨g, 0, none⟩) (Nat.le_refl _) (.int .i64 13))
  refine hK.out _ _ trivial (fun hS' => ?_)
  clear hK K hS cx fx
  have hS := hS'
  clear hS'
  generalize World.setCell _ ⟨g, 0, none⟩ _ = Y9 at *
  try simp only [Act.put, List.setIfInBounds_toArray, List.set_cons_zero, List.set_cons_succ]
  refine H.tk (i := 10) (v := ?v10c) ?h10c hS ?_
  case h10c => (intro w hw; go_simp; first | done | (with_reducible rfl))
  try simp only [Act.put, List.setIfInBounds_toArray, List.set_cons_zero, List.set_cons_succ]
  refine wpAnyH_ready (rs := [11]) (by kernel_rfl) (by simp) ?_
  refine AllReadyH.cons rfl (fun K hK => ?_) AllReadyH.nil
  have cx := XM.out.cell 12 _ rfl
  have fx := XM.out.frozen 12
  go_simp
  have XM := Lib.hid (XM.out.set (i := 12) (v := .int .i64 y2) (m' := { M.zero with kind := 13, ae := y0, pfx := wp, plen := y1, seq := y2, sa := sa, sl := l, sc := sc }) rfl)
  have HD := Lib.hid (HD.out.cell hg 12 (.int .i64 y2))
  have BL := Lib.hid (BL.out.setCell (p := ⟨g, 12, none⟩) (Nat.le_refl _) (.int .i64 y2))
  refine hK.out _ _ trivial (fun hS' => ?_)
  clear hK K hS cx fx
  have hS := hS'
  clear hS'
  generalize World.setCell _ ⟨g, 12, none⟩ _ = Y11 at *
  try simp only [Act.put, List.setIfInBounds_toArray, List.set_cons_zero, List.set_cons_succ]
  refine H.tk (i := 12) (v := ?v12c) ?h12c hS ?_
  case h12c => (intro w hw; go_simp; first | done | (with_reducible rfl))
  try simp only [Act.put, List.setIfInBounds_toArray, List.set_cons_zero, List.set_cons_succ]
  refine wpAnyH_ready (rs := [13]) (by kernel_rfl) (by simp) ?_
  refine AllReadyH.cons rfl (fun K hK => ?_) AllReadyH.nil
  have cx := XM.out.cell 16 _ rfl
  have fx := XM.out.frozen 16
  go_simp
  have XM := Lib.hid (XM.out.set (i := 16) (v := .int .i64 y4) (m' := { M.zero with kind := 13, ae := y0, pfx := wp, plen := y1, seq := y2, hops := y4, sa := sa, sl := l, sc := sc }) rfl)
  have HD := Lib.hid (HD.out.cell hg 16 (.int .i64 y4))
  have BL := Lib.hid (BL.out.setCell (p := ⟨g, 16, none⟩) (Nat.le_refl _) (.int .i64 y4))
  refine hK.out _ _ trivial (fun hS' => ?_)
  clear hK K hS cx fx
  have hS := hS'
  clear hS'
  generalize World.setCell _ ⟨g, 16, none⟩ _ = Y13 at *
  try simp only [Act.put, List.setIfInBounds_toArray, List.set_cons_zero, List.set_cons_succ]
  refine H.tk (i := 14) (v := ?v14c) ?h14c hS ?_
  case h14c => (intro w hw; go_simp; first | done | (with_reducible rfl))
  try simp only [Act.put, List.setIfInBounds_toArray, List.set_cons_zero, List.set_cons_succ]
  refine wpAnyH_ready (rs := [15]) (by kernel_rfl) (by simp) ?_
  refine AllReadyH.cons rfl (fun K hK => ?_) AllReadyH.nil
  have cx := XM.out.cell 11 _ rfl
  have fx := XM.out.frozen 11
  go_simp
  have XM := Lib.hid (XM.out.set (i := 11) (v := .string ei) (m' := { M.zero with kind := 13, ae := y0, pfx := wp, plen := y1, id := ei, seq := y2, hops := y4, sa := sa, sl := l, sc := sc }) rfl)
  have HD := Lib.hid (HD.out.cell hg 11 (.string ei))
  have BL := Lib.hid (BL.out.setCell (p := ⟨g, 11, none⟩) (Nat.le_refl _) (.string ei))
  refine hK.out _ _ trivial (fun hS' => ?_)
  clear hK K hS cx fx
  have hS := hS'
  clear hS'
  generalize World.setCell _ ⟨g, 11, none⟩ _ = Y15 at *
  try simp only [Act.put, List.setIfInBounds_toArray, List.set_cons_zero, List.set_cons_succ]
  refine wpAnyH_done (by kernel_rfl) ?_ _
  have c16 := XM.out.cs.c16
  go_wp2_with (first | (refine wpList_loadM (b := g) (m := { M.zero with kind := 13, ae := y0, pfx := wp, plen := y1, id := ei, seq := y2, hops := y4, sa := sa, sl := l, sc := sc }) rfl _ rfl rfl XM.out ?_) | (refine wpList_storeM (b := w.heap.size + 1) (m := M.zero) (m' := { M.zero with kind := 13, ae := y0, pfx := wp, plen := y1, id := ei, seq := y2, hops := y4, sa := sa, sl := l, sc := sc }) rfl _ _ rfl rfl rfl HD.out.res ?_))
  exact bodyPost_ret (v := .tuple #[.agg (M.cells { M.zero with kind := 13, ae := y0, pfx := wp, plen := y1, id := ei, seq := y2, hops := y4, sa := sa, sl := l, sc := sc }), .bool true, .int .i64 0]) (ret3 rfl _ _ (w.heap.size + 1) { M.zero with kind := 13, ae := y0, pfx := wp, plen := y1, id := ei, seq := y2, hops := y4, sa := sa, sl := l, sc := sc } rfl (HD.out.res.put (M.cells { M.zero with kind := 13, ae := y0, pfx := wp, plen := y1, id := ei, seq := y2, hops := y4, sa := sa, sl := l, sc := sc })) (.bool true) rfl (.int .i64 0) rfl) rfl (AnsB.subs (r := { M.zero with kind := 13, ae := y0, pfx := wp, plen := y1, id := ei, seq := y2, hops := y4 }) HY.out (lst_under (HLf.out _ BL.out) (by omega) _) hsw (Box.below_setRow HD.out.bel (by omega) _))
theorem rget_own (t a : Int) (s : ByteArray) (w : World) (h : t = 9 ∨ t = 10) (hs : s.size ≤ 100000) : Calls Tryz.prog 71 #[.agg (cellsT (a, (s, t)))] w (AnsB (outJ t s) w) := by
  rcases h with rfl | rfl
  · exact rget_9 a s w hs
  · exact rget_10 a s w hs
end Go.Proofs.YtjhfpobjbijcpaaGreatDoor.J8
