/-
  The document's Get: the message that a TLV says. Conditions: a type from 2 to 5, at most 100000 bytes.
-/
import Derived.Test.YtjhfpobjbijcpaaGreatDoorB19
import Derived.Test.YtjhfpobjbijcpaaGreatDoorB35
import Derived.Test.YtjhfpobjbijcpaaGreatDoorB41
namespace Go.Proofs.YtjhfpobjbijcpaaGreatDoor.G8
open Go.ChangeShapes Go.WideShapes Go.ChangeAt Go.RowKit
open Go.Proofs.YtjhfpobjbijcpaaGreatDoor.Ms
open Go.Proofs.YtjhfpobjbijcpaaGreatDoor.Box
open Go.Proofs.YtjhfpobjbijcpaaGreatDoor.S1
open Go.Proofs.YtjhfpobjbijcpaaGreatDoor.S5 (AnsS)
open Go.Proofs.YtjhfpobjbijcpaaGreatDoor.Nu
open Go.Proofs.YtjhfpobjbijcpaaGreatDoor.Lk
open Go.Proofs.YtjhfpobjbijcpaaGreatDoor.G1
open Go.Proofs.YtjhfpobjbijcpaaGreatDoor.G6 (lst_cell)
open Go.Proofs.YtjhfpobjbijcpaaGreatDoor.An
open Go.Proofs.YtjhfpobjbijcpaaGreatDoor.F1 (bt bt_nn bt_lt)
open Go.Proofs.YtjhfpobjbijcpaaGreatDoor.F2 (idx sl_m sl_l)
open Go.Proofs.YtjhfpobjbijcpaaGreatDoor.Hx (conv8)
open Go.Proofs.YtjhfpobjbijcpaaGreatDoor.Tl (cellsT)
open Go.Proofs.YtjhfpobjbijcpaaGreatDoor.Bk (Bk wpList_builtK alloc_size)
open Go.Proofs.YtjhfpobjbijcpaaGreatDoor.Hs
set_option linter.unusedVariables false
set_option maxRecDepth 100000
set_option maxRecDepth 100000
theorem sl_h (s : ByteArray) (j : Int) (hi : Nat) (hj : j = hi) (h2 : hi ≤ s.size) (W : World) :
    (Instr.slice 9 (.string s) none (some (.int .i64 j)) none).run Tryz.prog W = .ok (.string (s.extract 0 hi)) W := by
  subst hj
  have := run_slice_string_h (P := Tryz.prog) (t := 9) (s := s) W Tryz.underlying9 .i64 (hi : Int) (by omega) (by omega)
  simpa using this
theorem rnum2 (s : ByteArray) (a b : Nat) (h : b = a + 2) (w : World) : Calls Tryz.prog 90 #[.string (s.extract a b)] w fun e w' => e = .returned (.int .i64 (num2 s a)) ∧ w' = w := by
  subst h
  have := rnum_ext s a (a + 2) w (by omega)
  rw [Nat.add_sub_cancel_left] at this
  exact this
theorem len_any (x : Int) (h0 : 0 ≤ x) (h3 : x ≤ 3) (w : World) : Calls Tryz.prog 91 #[.int .i64 x] w fun e w' => e = .returned (.int .i64 (sizeA x : Int)) ∧ Below w.heap.size w w' := by
  rcases (show x = 0 ∨ x = 1 ∨ x = 2 ∨ x = 3 by omega) with rfl | rfl | rfl | rfl
  all_goals
    go_enter Tryz.func91, Tryz.ntmps91
    go_wp2
    go_ret
    exact ⟨rfl, balloc (Below.refl _ _) _⟩
/-- What stands: the TLV, the answer's block. -/
structure D (w0 W : World) (a : Int) (s : ByteArray) (t : Int) : Prop where
  tl : Bk 79 W w0.heap.size (cellsT (a, (s, t)))
  res : Bx W (w0.heap.size + 1) M.zero
  bel : Below w0.heap.size w0 W
theorem D.call {w0 W W' : World} {a t : Int} {s : ByteArray} (d : D w0 W a s t) (hb : Below W.heap.size W W') : D w0 W' a s t := ⟨d.tl.below hb, d.res.below hb, d.bel.trans (hb.mono d.bel.size)⟩
theorem D.drew {w0 W : World} {a t : Int} {s : ByteArray} (d : D w0 W a s t) : D w0 W.drew a s t := ⟨d.tl, d.res, d.bel.drew⟩
theorem D.row {w0 W : World} {a t : Int} {s : ByteArray} {g : Nat} (d : D w0 W a s t) (hg : w0.heap.size + 1 < g) (cs : Array Value) : D w0 (W.setRow g cs) a s t := ⟨d.tl.row (by omega) _, d.res.row (by omega) _, Box.below_setRow d.bel (by omega) _⟩
theorem D.cell {w0 W : World} {a t : Int} {s : ByteArray} {g : Nat} (d : D w0 W a s t) (hg : w0.heap.size + 1 < g) (i : Nat) (v : Value) : D w0 (W.setCell ⟨g, i, none⟩ v) a s t := ⟨d.tl.off (by show w0.heap.size ≠ g; omega) _, d.res.off (by show w0.heap.size + 1 ≠ g; omega) _, d.bel.setCell (p := ⟨g, i, none⟩) (by show w0.heap.size ≤ g; omega) _⟩
theorem D.start (w : World) (a t : Int) (s : ByteArray) : D w ((w.alloc (.cells (cellsT (a, (s, t))) 79)).alloc (.cells M.zero.cells 38)) a s t := by
  have X0 := Bx.new (w.alloc (.cells (cellsT (a, (s, t))) 79)) M.zero
  rw [alloc_size] at X0
  exact ⟨(Bk.Bk.new _ w _).old _, X0, balloc (balloc (Below.refl _ w) _) _⟩
set_option maxHeartbeats 12800000 in
theorem rget_own (t a : Int) (s : ByteArray) (w : World) (h2 : 2 ≤ t) (h5 : t ≤ 5) (hs : s.size ≤ 100000) : Calls Tryz.prog 70 #[.agg (cellsT (a, (s, t)))] w (AnsB (outF t s) w) := by
  rcases (show t = 2 ∨ t = 3 ∨ t = 4 ∨ t = 5 by omega) with rfl | rfl | rfl | rfl
  · have k : ¬ noF 2 s := fun x => by have := x.1; omega
    by_cases hz : s.size < 6
    · have HY := Lib.hid (out_short (t := 2) (d := s) hz)
      go_enter Tryz.func70, Tryz.ntmps70
      go_upto_region 1 with fail
      change Code.wp _ _ _ _ ((w.alloc (.cells (cellsT (a, (s, 2))) 79)).alloc (.cells M.zero.cells 38))
      have HD := Lib.hid (D.start w a 2 s)
      generalize (w.alloc (.cells (cellsT (a, (s, 2))) 79)).alloc (.cells M.zero.cells 38) = W at *
      have c0 := HD.out.tl.cell 0 (.int .i64 2) rfl
      have c2 := HD.out.tl.cell 2 (.string s) rfl
      go_wp2_with (first | (refine wpList_builtK rfl 38 _ rfl (M.cells M.zero) (by kernel_rfl) ?_) | (refine wpList_storeM (b := w.heap.size + 1) (m := M.zero) (m' := M.zero) rfl _ _ rfl rfl rfl HD.out.res ?_))
      exact bodyPost_ret (v := .tuple #[.agg M.zero.cells, .bool false, .int .i64 2]) (ret3 rfl _ _ (w.heap.size + 1) M.zero rfl (HD.out.res.put (m' := M.zero)) (.bool false) rfl (.int .i64 2) rfl) rfl (AnsB.no HY.out (Box.below_setRow HD.out.bel (by omega) _))
    have h : ¬ s.size < szF 2 s := hz
    have HX := Lib.hid (show hdF 2 s = hd2 s from rfl)
    have HH := Lib.hid (show hd2 s = ({ M.zero with kind := 7, nonce := num2 s 2, interval := num2 s 4 } : M) from rfl)
    obtain ⟨⟨l, kn, er⟩, ho⟩ : ∃ p, outS (s.extract (6) s.size) = p := ⟨_, rfl⟩
    have PS := Lib.hid (fun V => S6.rget_own (s.extract (6) s.size) V (by simp; omega))
    rw [ho] at PS
    have slt := sl_l s 6 (6) s.size rfl (by omega) rfl
    have p1 := rnum2 s 2 4 rfl
    have p2 := rnum2 s 4 6 rfl
    have P1 := Lib.hid p1
    have P2 := Lib.hid p2
    clear p1 p2
    have s1 := sl_m s 2 4 2 4 rfl rfl (by omega) (by omega)
    have s2 := sl_m s 4 6 4 6 rfl rfl (by omega) (by omega)
    generalize num2 s 2 = y1 at *
    generalize num2 s 4 = y2 at *
    generalize s.extract 2 4 = e1 at *
    generalize s.extract 4 6 = e2 at *
    generalize hd2 s = x at *
    go_enter Tryz.func70, Tryz.ntmps70
    go_upto_region 1 with fail
    change Code.wp _ _ _ _ ((w.alloc (.cells (cellsT (a, (s, 2))) 79)).alloc (.cells M.zero.cells 38))
    have HD := Lib.hid (D.start w a 2 s)
    generalize (w.alloc (.cells (cellsT (a, (s, 2))) 79)).alloc (.cells M.zero.cells 38) = W at *
    have c0 := HD.out.tl.cell 0 (.int .i64 2) rfl
    have c2 := HD.out.tl.cell 2 (.string s) rfl
    go_upto_region 8 with (first | (refine wpList_builtK rfl 38 _ rfl (M.cells M.zero) (by kernel_rfl) ?_) | (change wpList _ _ _ _ _ (W.alloc (.cells M.zero.cells 38)); refine wpList_storeM (b := W.heap.size) (m := M.zero) (m' := M.zero) rfl _ _ rfl rfl rfl (Bx.new W M.zero) ?_))
    rw [World.setRow_alloc_new]
    have XM := Lib.hid (Bx.new W M.zero)
    have hg := HD.out.res.lt
    have HD := Lib.hid (HD.out.call (balloc (Below.refl _ W) (.cells M.zero.cells 38)))
    clear c0 c2
    generalize W.alloc (.cells M.zero.cells 38) = V at *
    generalize W.heap.size = g at *
    have c0 := HD.out.tl.cell 0 (.int .i64 2) rfl
    go_upto_region 19 with fail
    refine wp_region_still_tail 6 (by kernel_rfl) (by kernel_rfl) ?_
    simp only [List.take_succ_cons, List.take_zero, List.drop_succ_cons, List.drop_zero]
    repeat still_step
    still_call (P1.out _)
    repeat still_step
    still_call (P2.out _)
    repeat still_step
    refine wpStill_nil ?_
    change wpList _ _ _ _ _ V.drew
    have XM := Lib.hid (show Bx V.drew g M.zero from XM.out)
    have HD := Lib.hid HD.out.drew
    generalize V.drew = V at *
    clear c0
    have HH := HH.out
    subst HH
    go_upto_region 24 with (first | (refine wpList_builtK rfl 38 _ rfl (M.cells { M.zero with kind := 7, nonce := y1, interval := y2 }) (by kernel_rfl) ?_) | (refine wpList_storeM (b := g) (m := M.zero) (m' := { M.zero with kind := 7, nonce := y1, interval := y2 }) rfl _ _ rfl rfl rfl XM.out ?_))
    have XM := Lib.hid (XM.out.put (m' := { M.zero with kind := 7, nonce := y1, interval := y2 }))
    have HD := Lib.hid (HD.out.row hg (M.cells { M.zero with kind := 7, nonce := y1, interval := y2 }))
    generalize World.setRow V g _ = Y at *
    obtain ⟨x, hx⟩ : ∃ x : M, x = { M.zero with kind := 7, nonce := y1, interval := y2 } := ⟨_, rfl⟩
    rw [← hx] at XM HX
    clear hx
    go_wp2_with fail
    refine (PS.out _).mono ?_
    rintro e w4 ⟨sa, sc, rfl, hl, hb⟩
    have hgg := XM.out.lt
    have XM := Lib.hid (XM.out.below hb)
    have HD := Lib.hid (HD.out.call hb)
    have HL := Lib.hid hl
    have hsw : w.heap.size ≤ (Y).heap.size := by omega
    clear hb hl PS
    simp only [] at HL
    generalize (Y).heap.size = z at *
    by_cases he : er = 0
    rotate_left
    · have HY := Lib.hid (out_sub h k ho (fun x => he x.1))
      have e1 : (er == 0) = false := by simpa using he
      have e2 : (er != 0) = true := by rw [bne, e1]; rfl
      clear he ho XM
      go_wp2_with (first | (refine wpList_builtK rfl 38 _ rfl (M.cells M.zero) (by kernel_rfl) ?_) | (refine wpList_storeM (b := w.heap.size + 1) (m := M.zero) (m' := M.zero) rfl _ _ rfl rfl rfl HD.out.res ?_))
      exact bodyPost_ret (v := .tuple #[.agg M.zero.cells, .bool false, .int .i64 er]) (ret3 rfl _ _ (w.heap.size + 1) M.zero rfl (HD.out.res.put (m' := M.zero)) (.bool false) rfl (.int .i64 er) rfl) rfl (AnsB.no HY.out (Box.below_setRow HD.out.bel (by omega) _))
    subst he
    cases kn with
    | false =>
      have HY := Lib.hid (out_sub h k ho (fun x => by cases x.2))
      clear ho XM
      go_wp2_with (first | (refine wpList_builtK rfl 38 _ rfl (M.cells M.zero) (by kernel_rfl) ?_) | (refine wpList_storeM (b := w.heap.size + 1) (m := M.zero) (m' := M.zero) rfl _ _ rfl rfl rfl HD.out.res ?_))
      exact bodyPost_ret (v := .tuple #[.agg M.zero.cells, .bool false, .int .i64 0]) (ret3 rfl _ _ (w.heap.size + 1) M.zero rfl (HD.out.res.put (m' := M.zero)) (.bool false) rfl (.int .i64 0) rfl) rfl (AnsB.no HY.out (Box.below_setRow HD.out.bel (by omega) _))
    | true =>
      have HY := Lib.hid (out_yes h k ho)
      rw [HX.out] at HY
      clear ho h k
      have d := XM.out.cs.c24
      have fd := XM.out.frozen 24
      go_upto_region 28 with fail
      have XM := Lib.hid (XM.out.set (i := 24) (v := .slice sa l.length sc) (m' := { x with sa := sa, sl := l, sc := sc }) rfl)
      have HD := Lib.hid (HD.out.cell hg 24 (.slice sa l.length sc))
      have HL := Lib.hid (lst_cell (u := .slice sa l.length sc) (p := ⟨g, 24, none⟩) HL.out hgg)
      clear d fd
      generalize w4.setCell ⟨g, 24, none⟩ (.slice sa l.length sc) = V5 at *
      go_wp2_with (first | (refine wpList_loadM (b := g) (m := { x with sa := sa, sl := l, sc := sc }) rfl _ rfl rfl XM.out ?_) | (refine wpList_storeM (b := w.heap.size + 1) (m := M.zero) (m' := { x with sa := sa, sl := l, sc := sc }) rfl _ _ rfl rfl rfl HD.out.res ?_))
      exact bodyPost_ret (v := .tuple #[.agg (M.cells { x with sa := sa, sl := l, sc := sc }), .bool true, .int .i64 0]) (ret3 rfl _ _ (w.heap.size + 1) { x with sa := sa, sl := l, sc := sc } rfl (HD.out.res.put (m' := { x with sa := sa, sl := l, sc := sc })) (.bool true) rfl (.int .i64 0) rfl) rfl (AnsB.subs HY.out (lst_under HL.out (by omega) _) hsw (Box.below_setRow HD.out.bel (by omega) _))
  · have k : ¬ noF 3 s := fun x => by have := x.1; omega
    by_cases hz : s.size < 2
    · have HY := Lib.hid (out_short (t := 3) (d := s) hz)
      go_enter Tryz.func70, Tryz.ntmps70
      go_upto_region 1 with fail
      change Code.wp _ _ _ _ ((w.alloc (.cells (cellsT (a, (s, 3))) 79)).alloc (.cells M.zero.cells 38))
      have HD := Lib.hid (D.start w a 3 s)
      generalize (w.alloc (.cells (cellsT (a, (s, 3))) 79)).alloc (.cells M.zero.cells 38) = W at *
      have c0 := HD.out.tl.cell 0 (.int .i64 3) rfl
      have c2 := HD.out.tl.cell 2 (.string s) rfl
      go_wp2_with (first | (refine wpList_builtK rfl 38 _ rfl (M.cells M.zero) (by kernel_rfl) ?_) | (refine wpList_storeM (b := w.heap.size + 1) (m := M.zero) (m' := M.zero) rfl _ _ rfl rfl rfl HD.out.res ?_))
      exact bodyPost_ret (v := .tuple #[.agg M.zero.cells, .bool false, .int .i64 2]) (ret3 rfl _ _ (w.heap.size + 1) M.zero rfl (HD.out.res.put (m' := M.zero)) (.bool false) rfl (.int .i64 2) rfl) rfl (AnsB.no HY.out (Box.below_setRow HD.out.bel (by omega) _))
    have h : ¬ s.size < szF 3 s := hz
    have HX := Lib.hid (show hdF 3 s = hd3 s from rfl)
    have HH := Lib.hid (show hd3 s = ({ M.zero with kind := 8, nonce := num2 s 0 } : M) from rfl)
    obtain ⟨⟨l, kn, er⟩, ho⟩ : ∃ p, outS (s.extract (2) s.size) = p := ⟨_, rfl⟩
    have PS := Lib.hid (fun V => S6.rget_own (s.extract (2) s.size) V (by simp; omega))
    rw [ho] at PS
    have slt := sl_l s 2 (2) s.size rfl (by omega) rfl
    have p1 := rnum2 s 0 2 rfl
    have P1 := Lib.hid p1
    clear p1
    have s1 := sl_h s 2 2 rfl (by omega)
    generalize num2 s 0 = y1 at *
    generalize s.extract 0 2 = e1 at *
    generalize hd3 s = x at *
    go_enter Tryz.func70, Tryz.ntmps70
    go_upto_region 1 with fail
    change Code.wp _ _ _ _ ((w.alloc (.cells (cellsT (a, (s, 3))) 79)).alloc (.cells M.zero.cells 38))
    have HD := Lib.hid (D.start w a 3 s)
    generalize (w.alloc (.cells (cellsT (a, (s, 3))) 79)).alloc (.cells M.zero.cells 38) = W at *
    have c0 := HD.out.tl.cell 0 (.int .i64 3) rfl
    have c2 := HD.out.tl.cell 2 (.string s) rfl
    go_upto_region 8 with (first | (refine wpList_builtK rfl 38 _ rfl (M.cells M.zero) (by kernel_rfl) ?_) | (change wpList _ _ _ _ _ (W.alloc (.cells M.zero.cells 38)); refine wpList_storeM (b := W.heap.size) (m := M.zero) (m' := M.zero) rfl _ _ rfl rfl rfl (Bx.new W M.zero) ?_))
    rw [World.setRow_alloc_new]
    have XM := Lib.hid (Bx.new W M.zero)
    have hg := HD.out.res.lt
    have HD := Lib.hid (HD.out.call (balloc (Below.refl _ W) (.cells M.zero.cells 38)))
    clear c0 c2
    generalize W.alloc (.cells M.zero.cells 38) = V at *
    generalize W.heap.size = g at *
    have c0 := HD.out.tl.cell 0 (.int .i64 3) rfl
    go_wp2_with fail
    refine (P1.out _).mono ?_
    rintro e V ⟨rfl, rfl⟩
    clear c0
    have HH := HH.out
    subst HH
    go_upto_region 24 with (first | (refine wpList_builtK rfl 38 _ rfl (M.cells { M.zero with kind := 8, nonce := y1 }) (by kernel_rfl) ?_) | (refine wpList_storeM (b := g) (m := M.zero) (m' := { M.zero with kind := 8, nonce := y1 }) rfl _ _ rfl rfl rfl XM.out ?_))
    have XM := Lib.hid (XM.out.put (m' := { M.zero with kind := 8, nonce := y1 }))
    have HD := Lib.hid (HD.out.row hg (M.cells { M.zero with kind := 8, nonce := y1 }))
    generalize World.setRow V g _ = Y at *
    obtain ⟨x, hx⟩ : ∃ x : M, x = { M.zero with kind := 8, nonce := y1 } := ⟨_, rfl⟩
    rw [← hx] at XM HX
    clear hx
    go_wp2_with fail
    refine (PS.out _).mono ?_
    rintro e w4 ⟨sa, sc, rfl, hl, hb⟩
    have hgg := XM.out.lt
    have XM := Lib.hid (XM.out.below hb)
    have HD := Lib.hid (HD.out.call hb)
    have HL := Lib.hid hl
    have hsw : w.heap.size ≤ (Y).heap.size := by omega
    clear hb hl PS
    simp only [] at HL
    generalize (Y).heap.size = z at *
    by_cases he : er = 0
    rotate_left
    · have HY := Lib.hid (out_sub h k ho (fun x => he x.1))
      have e1 : (er == 0) = false := by simpa using he
      have e2 : (er != 0) = true := by rw [bne, e1]; rfl
      clear he ho XM
      go_wp2_with (first | (refine wpList_builtK rfl 38 _ rfl (M.cells M.zero) (by kernel_rfl) ?_) | (refine wpList_storeM (b := w.heap.size + 1) (m := M.zero) (m' := M.zero) rfl _ _ rfl rfl rfl HD.out.res ?_))
      exact bodyPost_ret (v := .tuple #[.agg M.zero.cells, .bool false, .int .i64 er]) (ret3 rfl _ _ (w.heap.size + 1) M.zero rfl (HD.out.res.put (m' := M.zero)) (.bool false) rfl (.int .i64 er) rfl) rfl (AnsB.no HY.out (Box.below_setRow HD.out.bel (by omega) _))
    subst he
    cases kn with
    | false =>
      have HY := Lib.hid (out_sub h k ho (fun x => by cases x.2))
      clear ho XM
      go_wp2_with (first | (refine wpList_builtK rfl 38 _ rfl (M.cells M.zero) (by kernel_rfl) ?_) | (refine wpList_storeM (b := w.heap.size + 1) (m := M.zero) (m' := M.zero) rfl _ _ rfl rfl rfl HD.out.res ?_))
      exact bodyPost_ret (v := .tuple #[.agg M.zero.cells, .bool false, .int .i64 0]) (ret3 rfl _ _ (w.heap.size + 1) M.zero rfl (HD.out.res.put (m' := M.zero)) (.bool false) rfl (.int .i64 0) rfl) rfl (AnsB.no HY.out (Box.below_setRow HD.out.bel (by omega) _))
    | true =>
      have HY := Lib.hid (out_yes h k ho)
      rw [HX.out] at HY
      clear ho h k
      have d := XM.out.cs.c24
      have fd := XM.out.frozen 24
      go_upto_region 28 with fail
      have XM := Lib.hid (XM.out.set (i := 24) (v := .slice sa l.length sc) (m' := { x with sa := sa, sl := l, sc := sc }) rfl)
      have HD := Lib.hid (HD.out.cell hg 24 (.slice sa l.length sc))
      have HL := Lib.hid (lst_cell (u := .slice sa l.length sc) (p := ⟨g, 24, none⟩) HL.out hgg)
      clear d fd
      generalize w4.setCell ⟨g, 24, none⟩ (.slice sa l.length sc) = V5 at *
      go_wp2_with (first | (refine wpList_loadM (b := g) (m := { x with sa := sa, sl := l, sc := sc }) rfl _ rfl rfl XM.out ?_) | (refine wpList_storeM (b := w.heap.size + 1) (m := M.zero) (m' := { x with sa := sa, sl := l, sc := sc }) rfl _ _ rfl rfl rfl HD.out.res ?_))
      exact bodyPost_ret (v := .tuple #[.agg (M.cells { x with sa := sa, sl := l, sc := sc }), .bool true, .int .i64 0]) (ret3 rfl _ _ (w.heap.size + 1) { x with sa := sa, sl := l, sc := sc } rfl (HD.out.res.put (m' := { x with sa := sa, sl := l, sc := sc })) (.bool true) rfl (.int .i64 0) rfl) rfl (AnsB.subs HY.out (lst_under HL.out (by omega) _) hsw (Box.below_setRow HD.out.bel (by omega) _))
  · have k : ¬ noF 4 s := fun x => by have := x.1; omega
    by_cases hz : s.size < 6
    · have HY := Lib.hid (out_short (t := 4) (d := s) hz)
      go_enter Tryz.func70, Tryz.ntmps70
      go_upto_region 1 with fail
      change Code.wp _ _ _ _ ((w.alloc (.cells (cellsT (a, (s, 4))) 79)).alloc (.cells M.zero.cells 38))
      have HD := Lib.hid (D.start w a 4 s)
      generalize (w.alloc (.cells (cellsT (a, (s, 4))) 79)).alloc (.cells M.zero.cells 38) = W at *
      have c0 := HD.out.tl.cell 0 (.int .i64 4) rfl
      have c2 := HD.out.tl.cell 2 (.string s) rfl
      go_wp2_with (first | (refine wpList_builtK rfl 38 _ rfl (M.cells M.zero) (by kernel_rfl) ?_) | (refine wpList_storeM (b := w.heap.size + 1) (m := M.zero) (m' := M.zero) rfl _ _ rfl rfl rfl HD.out.res ?_))
      exact bodyPost_ret (v := .tuple #[.agg M.zero.cells, .bool false, .int .i64 2]) (ret3 rfl _ _ (w.heap.size + 1) M.zero rfl (HD.out.res.put (m' := M.zero)) (.bool false) rfl (.int .i64 2) rfl) rfl (AnsB.no HY.out (Box.below_setRow HD.out.bel (by omega) _))
    have h : ¬ s.size < szF 4 s := hz
    have HX := Lib.hid (show hdF 4 s = hd4 s from rfl)
    have HH := Lib.hid (show hd4 s = ({ M.zero with kind := 9, flags := bt s 0 / 128, seq := num2 s 2, interval := num2 s 4 } : M) from rfl)
    obtain ⟨⟨l, kn, er⟩, ho⟩ : ∃ p, outS (s.extract (6) s.size) = p := ⟨_, rfl⟩
    have PS := Lib.hid (fun V => S6.rget_own (s.extract (6) s.size) V (by simp; omega))
    rw [ho] at PS
    have slt := sl_l s 6 (6) s.size rfl (by omega) rfl
    have p1 := rnum2 s 2 4 rfl
    have p2 := rnum2 s 4 6 rfl
    have P1 := Lib.hid p1
    have P2 := Lib.hid p2
    clear p1 p2
    have s1 := sl_m s 2 4 2 4 rfl rfl (by omega) (by omega)
    have s2 := sl_m s 4 6 4 6 rfl rfl (by omega) (by omega)
    have i0 := idx s 0 0 rfl (by omega)
    have b0 := bt_nn s 0
    have b1 := bt_lt s 0
    have v0 := conv8 (bt s 0) b0 b1
    have HQ : Hid (IntKind.i64.wrap ((bt s 0).tdiv 128) = bt s 0 / 128) := Lib.hid (by rw [Int.tdiv_eq_ediv_of_nonneg b0]; exact IntWalk.i64_in _ (by omega))
    generalize num2 s 2 = y1 at *
    generalize num2 s 4 = y2 at *
    generalize s.extract 2 4 = e1 at *
    generalize s.extract 4 6 = e2 at *
    generalize bt s 0 = y0 at *
    generalize hd4 s = x at *
    go_enter Tryz.func70, Tryz.ntmps70
    go_upto_region 1 with fail
    change Code.wp _ _ _ _ ((w.alloc (.cells (cellsT (a, (s, 4))) 79)).alloc (.cells M.zero.cells 38))
    have HD := Lib.hid (D.start w a 4 s)
    generalize (w.alloc (.cells (cellsT (a, (s, 4))) 79)).alloc (.cells M.zero.cells 38) = W at *
    have c0 := HD.out.tl.cell 0 (.int .i64 4) rfl
    have c2 := HD.out.tl.cell 2 (.string s) rfl
    go_upto_region 8 with (first | (refine wpList_builtK rfl 38 _ rfl (M.cells M.zero) (by kernel_rfl) ?_) | (change wpList _ _ _ _ _ (W.alloc (.cells M.zero.cells 38)); refine wpList_storeM (b := W.heap.size) (m := M.zero) (m' := M.zero) rfl _ _ rfl rfl rfl (Bx.new W M.zero) ?_))
    rw [World.setRow_alloc_new]
    have XM := Lib.hid (Bx.new W M.zero)
    have hg := HD.out.res.lt
    have HD := Lib.hid (HD.out.call (balloc (Below.refl _ W) (.cells M.zero.cells 38)))
    clear c0 c2
    generalize W.alloc (.cells M.zero.cells 38) = V at *
    generalize W.heap.size = g at *
    have c0 := HD.out.tl.cell 0 (.int .i64 4) rfl
    go_upto_region 23 with fail
    refine wp_region_still_tail 10 (by kernel_rfl) (by kernel_rfl) ?_
    simp only [List.take_succ_cons, List.take_zero, List.drop_succ_cons, List.drop_zero]
    repeat still_step
    still_call (P1.out _)
    repeat still_step
    still_call (P2.out _)
    repeat still_step
    refine wpStill_nil ?_
    change wpList _ _ _ _ _ V.drew
    have XM := Lib.hid (show Bx V.drew g M.zero from XM.out)
    have HD := Lib.hid HD.out.drew
    generalize V.drew = V at *
    rw [HQ.out]
    clear c0
    have HH := HH.out
    subst HH
    go_upto_region 24 with (first | (refine wpList_builtK rfl 38 _ rfl (M.cells { M.zero with kind := 9, flags := y0 / 128, seq := y1, interval := y2 }) (by kernel_rfl) ?_) | (refine wpList_storeM (b := g) (m := M.zero) (m' := { M.zero with kind := 9, flags := y0 / 128, seq := y1, interval := y2 }) rfl _ _ rfl rfl rfl XM.out ?_))
    have XM := Lib.hid (XM.out.put (m' := { M.zero with kind := 9, flags := y0 / 128, seq := y1, interval := y2 }))
    have HD := Lib.hid (HD.out.row hg (M.cells { M.zero with kind := 9, flags := y0 / 128, seq := y1, interval := y2 }))
    generalize World.setRow V g _ = Y at *
    obtain ⟨x, hx⟩ : ∃ x : M, x = { M.zero with kind := 9, flags := y0 / 128, seq := y1, interval := y2 } := ⟨_, rfl⟩
    rw [← hx] at XM HX
    clear hx
    go_wp2_with fail
    refine (PS.out _).mono ?_
    rintro e w4 ⟨sa, sc, rfl, hl, hb⟩
    have hgg := XM.out.lt
    have XM := Lib.hid (XM.out.below hb)
    have HD := Lib.hid (HD.out.call hb)
    have HL := Lib.hid hl
    have hsw : w.heap.size ≤ (Y).heap.size := by omega
    clear hb hl PS
    simp only [] at HL
    generalize (Y).heap.size = z at *
    by_cases he : er = 0
    rotate_left
    · have HY := Lib.hid (out_sub h k ho (fun x => he x.1))
      have e1 : (er == 0) = false := by simpa using he
      have e2 : (er != 0) = true := by rw [bne, e1]; rfl
      clear he ho XM
      go_wp2_with (first | (refine wpList_builtK rfl 38 _ rfl (M.cells M.zero) (by kernel_rfl) ?_) | (refine wpList_storeM (b := w.heap.size + 1) (m := M.zero) (m' := M.zero) rfl _ _ rfl rfl rfl HD.out.res ?_))
      exact bodyPost_ret (v := .tuple #[.agg M.zero.cells, .bool false, .int .i64 er]) (ret3 rfl _ _ (w.heap.size + 1) M.zero rfl (HD.out.res.put (m' := M.zero)) (.bool false) rfl (.int .i64 er) rfl) rfl (AnsB.no HY.out (Box.below_setRow HD.out.bel (by omega) _))
    subst he
    cases kn with
    | false =>
      have HY := Lib.hid (out_sub h k ho (fun x => by cases x.2))
      clear ho XM
      go_wp2_with (first | (refine wpList_builtK rfl 38 _ rfl (M.cells M.zero) (by kernel_rfl) ?_) | (refine wpList_storeM (b := w.heap.size + 1) (m := M.zero) (m' := M.zero) rfl _ _ rfl rfl rfl HD.out.res ?_))
      exact bodyPost_ret (v := .tuple #[.agg M.zero.cells, .bool false, .int .i64 0]) (ret3 rfl _ _ (w.heap.size + 1) M.zero rfl (HD.out.res.put (m' := M.zero)) (.bool false) rfl (.int .i64 0) rfl) rfl (AnsB.no HY.out (Box.below_setRow HD.out.bel (by omega) _))
    | true =>
      have HY := Lib.hid (out_yes h k ho)
      rw [HX.out] at HY
      clear ho h k
      have d := XM.out.cs.c24
      have fd := XM.out.frozen 24
      go_upto_region 28 with fail
      have XM := Lib.hid (XM.out.set (i := 24) (v := .slice sa l.length sc) (m' := { x with sa := sa, sl := l, sc := sc }) rfl)
      have HD := Lib.hid (HD.out.cell hg 24 (.slice sa l.length sc))
      have HL := Lib.hid (lst_cell (u := .slice sa l.length sc) (p := ⟨g, 24, none⟩) HL.out hgg)
      clear d fd
      generalize w4.setCell ⟨g, 24, none⟩ (.slice sa l.length sc) = V5 at *
      go_wp2_with (first | (refine wpList_loadM (b := g) (m := { x with sa := sa, sl := l, sc := sc }) rfl _ rfl rfl XM.out ?_) | (refine wpList_storeM (b := w.heap.size + 1) (m := M.zero) (m' := { x with sa := sa, sl := l, sc := sc }) rfl _ _ rfl rfl rfl HD.out.res ?_))
      exact bodyPost_ret (v := .tuple #[.agg (M.cells { x with sa := sa, sl := l, sc := sc }), .bool true, .int .i64 0]) (ret3 rfl _ _ (w.heap.size + 1) { x with sa := sa, sl := l, sc := sc } rfl (HD.out.res.put (m' := { x with sa := sa, sl := l, sc := sc })) (.bool true) rfl (.int .i64 0) rfl) rfl (AnsB.subs HY.out (lst_under HL.out (by omega) _) hsw (Box.below_setRow HD.out.bel (by omega) _))
  · by_cases hz : s.size < 6
    · have HY := Lib.hid (out_short (t := 5) (d := s) (show s.size < 6 + sizeA (bt s 0) by omega))
      go_enter Tryz.func70, Tryz.ntmps70
      go_upto_region 1 with fail
      change Code.wp _ _ _ _ ((w.alloc (.cells (cellsT (a, (s, 5))) 79)).alloc (.cells M.zero.cells 38))
      have HD := Lib.hid (D.start w a 5 s)
      generalize (w.alloc (.cells (cellsT (a, (s, 5))) 79)).alloc (.cells M.zero.cells 38) = W at *
      have c0 := HD.out.tl.cell 0 (.int .i64 5) rfl
      have c2 := HD.out.tl.cell 2 (.string s) rfl
      go_wp2_with (first | (refine wpList_builtK rfl 38 _ rfl (M.cells M.zero) (by kernel_rfl) ?_) | (refine wpList_storeM (b := w.heap.size + 1) (m := M.zero) (m' := M.zero) rfl _ _ rfl rfl rfl HD.out.res ?_))
      exact bodyPost_ret (v := .tuple #[.agg M.zero.cells, .bool false, .int .i64 2]) (ret3 rfl _ _ (w.heap.size + 1) M.zero rfl (HD.out.res.put (m' := M.zero)) (.bool false) rfl (.int .i64 2) rfl) rfl (AnsB.no HY.out (Box.below_setRow HD.out.bel (by omega) _))
    have p1 := rnum2 s 2 4 rfl
    have p2 := rnum2 s 4 6 rfl
    have P1 := Lib.hid p1
    have P2 := Lib.hid p2
    clear p1 p2
    have s1 := sl_m s 2 4 2 4 rfl rfl (by omega) (by omega)
    have s2 := sl_m s 4 6 4 6 rfl rfl (by omega) (by omega)
    have i0 := idx s 0 0 rfl (by omega)
    have b0 := bt_nn s 0
    have b1 := bt_lt s 0
    have v0 := conv8 (bt s 0) b0 b1
    by_cases k3 : 3 < bt s 0
    · have HY := Lib.hid (out_none (t := 5) (d := s) (show ¬ s.size < 6 + sizeA (bt s 0) by rw [size_far k3]; omega) ⟨rfl, k3⟩)
      generalize num2 s 2 = y1 at *
      generalize num2 s 4 = y2 at *
      generalize s.extract 2 4 = e1 at *
      generalize s.extract 4 6 = e2 at *
      generalize bt s 0 = y0 at *
      go_enter Tryz.func70, Tryz.ntmps70
      go_upto_region 1 with fail
      change Code.wp _ _ _ _ ((w.alloc (.cells (cellsT (a, (s, 5))) 79)).alloc (.cells M.zero.cells 38))
      have HD := Lib.hid (D.start w a 5 s)
      generalize (w.alloc (.cells (cellsT (a, (s, 5))) 79)).alloc (.cells M.zero.cells 38) = W at *
      have c0 := HD.out.tl.cell 0 (.int .i64 5) rfl
      have c2 := HD.out.tl.cell 2 (.string s) rfl
      go_upto_region 8 with (first | (refine wpList_builtK rfl 38 _ rfl (M.cells M.zero) (by kernel_rfl) ?_) | (change wpList _ _ _ _ _ (W.alloc (.cells M.zero.cells 38)); refine wpList_storeM (b := W.heap.size) (m := M.zero) (m' := M.zero) rfl _ _ rfl rfl rfl (Bx.new W M.zero) ?_))
      rw [World.setRow_alloc_new]
      have XM := Lib.hid (Bx.new W M.zero)
      have hg := HD.out.res.lt
      have HD := Lib.hid (HD.out.call (balloc (Below.refl _ W) (.cells M.zero.cells 38)))
      clear c0 c2
      generalize W.alloc (.cells M.zero.cells 38) = V at *
      generalize W.heap.size = g at *
      have c0 := HD.out.tl.cell 0 (.int .i64 5) rfl
      go_upto_region 9 with fail
      refine wp_region_still_tail 9 (by kernel_rfl) (by kernel_rfl) ?_
      simp only [List.take_succ_cons, List.take_zero, List.drop_succ_cons, List.drop_zero]
      repeat still_step
      still_call (P1.out _)
      repeat still_step
      still_call (P2.out _)
      repeat still_step
      refine wpStill_nil ?_
      change wpList _ _ _ _ _ V.drew
      have XM := Lib.hid (show Bx V.drew g M.zero from XM.out)
      have HD := Lib.hid HD.out.drew
      generalize V.drew = V at *
      clear c0 i0 v0 s1 s2 b0 b1 P1 P2
      go_upto_region 10 with (first | (refine wpList_builtK rfl 38 _ rfl (M.cells { M.zero with kind := 10, ae := y0, cost := y1, interval := y2 }) (by kernel_rfl) ?_) | (refine wpList_storeM (b := g) (m := M.zero) (m' := { M.zero with kind := 10, ae := y0, cost := y1, interval := y2 }) rfl _ _ rfl rfl rfl XM.out ?_))
      have XM := Lib.hid (XM.out.put (m' := ({ M.zero with kind := 10, ae := y0, cost := y1, interval := y2 } : M)))
      have HD := Lib.hid (HD.out.row hg (M.cells ({ M.zero with kind := 10, ae := y0, cost := y1, interval := y2 } : M)))
      generalize World.setRow V g _ = Y at *
      have c5 : Y.cell? ⟨g, 5, none⟩ = some (.int .i64 y0) := XM.out.cs.c5
      go_wp2_with (first | (refine wpList_builtK rfl 38 _ rfl (M.cells M.zero) (by kernel_rfl) ?_) | (refine wpList_storeM (b := w.heap.size + 1) (m := M.zero) (m' := M.zero) rfl _ _ rfl rfl rfl HD.out.res ?_))
      exact bodyPost_ret (v := .tuple #[.agg M.zero.cells, .bool false, .int .i64 0]) (ret3 rfl _ _ (w.heap.size + 1) M.zero rfl (HD.out.res.put (m' := M.zero)) (.bool false) rfl (.int .i64 0) rfl) rfl (AnsB.no HY.out (Box.below_setRow HD.out.bel (by omega) _))
    have k : ¬ noF 5 s := fun x => k3 x.2
    have PL := Lib.hid (fun V => len_any (bt s 0) b0 (by omega) V)
    have nle := sizeA_le (bt s 0)
    obtain ⟨nz, hnz⟩ : ∃ n, sizeA (bt s 0) = n := ⟨_, rfl⟩
    have hzz : szF 5 s = 6 + nz := by show 6 + sizeA (bt s 0) = _; rw [hnz]
    have HX0 : hdF 5 s = { M.zero with kind := 10, ae := bt s 0, cost := num2 s 2, interval := num2 s 4, addr := lgT (bt s 0) (s.extract 6 (6 + nz)) } := by show hd5 s = _; unfold hd5; rw [hnz]
    rw [hnz] at PL nle
    clear hnz
    by_cases hh : s.size < 6 + nz
    · have HY := Lib.hid (out_short (t := 5) (d := s) (by rw [hzz]; exact hh))
      have hh2 : (s.size : Int) < 6 + (nz : Int) := by omega
      clear HX0 hzz
      generalize num2 s 2 = y1 at *
      generalize num2 s 4 = y2 at *
      generalize s.extract 2 4 = e1 at *
      generalize s.extract 4 6 = e2 at *
      generalize bt s 0 = y0 at *
      go_enter Tryz.func70, Tryz.ntmps70
      go_upto_region 1 with fail
      change Code.wp _ _ _ _ ((w.alloc (.cells (cellsT (a, (s, 5))) 79)).alloc (.cells M.zero.cells 38))
      have HD := Lib.hid (D.start w a 5 s)
      generalize (w.alloc (.cells (cellsT (a, (s, 5))) 79)).alloc (.cells M.zero.cells 38) = W at *
      have c0 := HD.out.tl.cell 0 (.int .i64 5) rfl
      have c2 := HD.out.tl.cell 2 (.string s) rfl
      go_upto_region 8 with (first | (refine wpList_builtK rfl 38 _ rfl (M.cells M.zero) (by kernel_rfl) ?_) | (change wpList _ _ _ _ _ (W.alloc (.cells M.zero.cells 38)); refine wpList_storeM (b := W.heap.size) (m := M.zero) (m' := M.zero) rfl _ _ rfl rfl rfl (Bx.new W M.zero) ?_))
      rw [World.setRow_alloc_new]
      have XM := Lib.hid (Bx.new W M.zero)
      have hg := HD.out.res.lt
      have HD := Lib.hid (HD.out.call (balloc (Below.refl _ W) (.cells M.zero.cells 38)))
      clear c0 c2
      generalize W.alloc (.cells M.zero.cells 38) = V at *
      generalize W.heap.size = g at *
      have c0 := HD.out.tl.cell 0 (.int .i64 5) rfl
      go_upto_region 9 with fail
      refine wp_region_still_tail 9 (by kernel_rfl) (by kernel_rfl) ?_
      simp only [List.take_succ_cons, List.take_zero, List.drop_succ_cons, List.drop_zero]
      repeat still_step
      still_call (P1.out _)
      repeat still_step
      still_call (P2.out _)
      repeat still_step
      refine wpStill_nil ?_
      change wpList _ _ _ _ _ V.drew
      have XM := Lib.hid (show Bx V.drew g M.zero from XM.out)
      have HD := Lib.hid HD.out.drew
      generalize V.drew = V at *
      clear c0 i0 v0 s1 s2 b0 b1 P1 P2
      go_upto_region 10 with (first | (refine wpList_builtK rfl 38 _ rfl (M.cells { M.zero with kind := 10, ae := y0, cost := y1, interval := y2 }) (by kernel_rfl) ?_) | (refine wpList_storeM (b := g) (m := M.zero) (m' := { M.zero with kind := 10, ae := y0, cost := y1, interval := y2 }) rfl _ _ rfl rfl rfl XM.out ?_))
      have XM := Lib.hid (XM.out.put (m' := ({ M.zero with kind := 10, ae := y0, cost := y1, interval := y2 } : M)))
      have HD := Lib.hid (HD.out.row hg (M.cells ({ M.zero with kind := 10, ae := y0, cost := y1, interval := y2 } : M)))
      generalize World.setRow V g _ = Y at *
      have c5 : Y.cell? ⟨g, 5, none⟩ = some (.int .i64 y0) := XM.out.cs.c5
      go_wp2_with fail
      refine (PL.out _).mono ?_
      rintro e V7 ⟨rfl, hb⟩
      have XM := Lib.hid (XM.out.below hb)
      have HD := Lib.hid (HD.out.call hb)
      clear hb c5
      go_wp2_with (first | (refine wpList_builtK rfl 38 _ rfl (M.cells M.zero) (by kernel_rfl) ?_) | (refine wpList_storeM (b := w.heap.size + 1) (m := M.zero) (m' := M.zero) rfl _ _ rfl rfl rfl HD.out.res ?_))
      exact bodyPost_ret (v := .tuple #[.agg M.zero.cells, .bool false, .int .i64 2]) (ret3 rfl _ _ (w.heap.size + 1) M.zero rfl (HD.out.res.put (m' := M.zero)) (.bool false) rfl (.int .i64 2) rfl) rfl (AnsB.no HY.out (Box.below_setRow HD.out.bel (by omega) _))
    have h : ¬ s.size < szF 5 s := by rw [hzz]; exact hh
    have hh2 : ¬ (s.size : Int) < 6 + (nz : Int) := by omega
    have sla := sl_m s 6 (6 + (nz : Int)) 6 (6 + nz) rfl (by omega) (by omega) (by omega)
    have slt := sl_l s (6 + (nz : Int)) (6 + nz) s.size (by omega) (by omega) rfl
    obtain ⟨⟨l, kn, er⟩, ho⟩ : ∃ p, outS (s.extract (szF 5 s) s.size) = p := ⟨_, rfl⟩
    have PS := Lib.hid (fun V => S6.rget_own (s.extract (szF 5 s) s.size) V (by simp; omega))
    have hoX := ho
    rw [ho] at PS
    rw [hzz] at PS
    have HX := Lib.hid HX0
    clear HX0 hzz hoX
    by_cases e3 : bt s 0 = 3
    · rw [e3] at HX
      have PG := Lib.hid (fun V => rlong_any (s.extract 6 (6 + nz)) V)
      have HX := Lib.hid (show hdF 5 s = { M.zero with kind := 10, ae := 3, cost := num2 s 2, interval := num2 s 4, addr := lgA (s.extract 6 (6 + nz)) } from HX.out)
      rw [← e3] at HX
      generalize s.extract 6 (6 + nz) = ea at *
      generalize lgA ea = la at *
      generalize s.extract (6 + nz) s.size = er2 at *
      generalize num2 s 2 = y1 at *
      generalize num2 s 4 = y2 at *
      generalize s.extract 2 4 = e1 at *
      generalize s.extract 4 6 = e2 at *
      generalize bt s 0 = y0 at *
      have E3 := Lib.hid e3
      clear e3
      go_enter Tryz.func70, Tryz.ntmps70
      go_upto_region 1 with fail
      change Code.wp _ _ _ _ ((w.alloc (.cells (cellsT (a, (s, 5))) 79)).alloc (.cells M.zero.cells 38))
      have HD := Lib.hid (D.start w a 5 s)
      generalize (w.alloc (.cells (cellsT (a, (s, 5))) 79)).alloc (.cells M.zero.cells 38) = W at *
      have c0 := HD.out.tl.cell 0 (.int .i64 5) rfl
      have c2 := HD.out.tl.cell 2 (.string s) rfl
      go_upto_region 8 with (first | (refine wpList_builtK rfl 38 _ rfl (M.cells M.zero) (by kernel_rfl) ?_) | (change wpList _ _ _ _ _ (W.alloc (.cells M.zero.cells 38)); refine wpList_storeM (b := W.heap.size) (m := M.zero) (m' := M.zero) rfl _ _ rfl rfl rfl (Bx.new W M.zero) ?_))
      rw [World.setRow_alloc_new]
      have XM := Lib.hid (Bx.new W M.zero)
      have hg := HD.out.res.lt
      have HD := Lib.hid (HD.out.call (balloc (Below.refl _ W) (.cells M.zero.cells 38)))
      clear c0 c2
      generalize W.alloc (.cells M.zero.cells 38) = V at *
      generalize W.heap.size = g at *
      have c0 := HD.out.tl.cell 0 (.int .i64 5) rfl
      go_upto_region 9 with fail
      refine wp_region_still_tail 9 (by kernel_rfl) (by kernel_rfl) ?_
      simp only [List.take_succ_cons, List.take_zero, List.drop_succ_cons, List.drop_zero]
      repeat still_step
      still_call (P1.out _)
      repeat still_step
      still_call (P2.out _)
      repeat still_step
      refine wpStill_nil ?_
      change wpList _ _ _ _ _ V.drew
      have XM := Lib.hid (show Bx V.drew g M.zero from XM.out)
      have HD := Lib.hid HD.out.drew
      generalize V.drew = V at *
      clear c0 i0 v0 s1 s2 b0 b1 P1 P2
      go_upto_region 10 with (first | (refine wpList_builtK rfl 38 _ rfl (M.cells { M.zero with kind := 10, ae := y0, cost := y1, interval := y2 }) (by kernel_rfl) ?_) | (refine wpList_storeM (b := g) (m := M.zero) (m' := { M.zero with kind := 10, ae := y0, cost := y1, interval := y2 }) rfl _ _ rfl rfl rfl XM.out ?_))
      have XM := Lib.hid (XM.out.put (m' := ({ M.zero with kind := 10, ae := y0, cost := y1, interval := y2 } : M)))
      have HD := Lib.hid (HD.out.row hg (M.cells ({ M.zero with kind := 10, ae := y0, cost := y1, interval := y2 } : M)))
      generalize World.setRow V g _ = Y at *
      have c5 : Y.cell? ⟨g, 5, none⟩ = some (.int .i64 y0) := XM.out.cs.c5
      go_wp2_with fail
      refine (PL.out _).mono ?_
      rintro e V7 ⟨rfl, hb⟩
      have XM := Lib.hid (XM.out.below hb)
      have HD := Lib.hid (HD.out.call hb)
      clear hb c5
      have c5 : V7.cell? ⟨g, 5, none⟩ = some (.int .i64 y0) := XM.out.cs.c5
      have d := XM.out.cs.c19
      have fd := XM.out.frozen 19
      go_upto_region 16 with fail
      have XM := Lib.hid (XM.out.set (i := 19) (v := .string ea) (m' := { M.zero with kind := 10, ae := y0, cost := y1, interval := y2, addr := ea }) rfl)
      have HD := Lib.hid (HD.out.cell hg 19 (.string ea))
      clear d fd c5
      generalize V7.setCell ⟨g, 19, none⟩ (.string ea) = V8 at *
      have c5 : V8.cell? ⟨g, 5, none⟩ = some (.int .i64 y0) := XM.out.cs.c5
      rw [E3.out] at c5
      have c19 := XM.out.cs.c19
      go_wp2_with fail
      refine (PG.out _).mono ?_
      rintro e V9 ⟨rfl, hb⟩
      have XM := Lib.hid (XM.out.below hb)
      have HD := Lib.hid (HD.out.call hb)
      clear hb c5 c19
      have d := XM.out.cs.c19
      have fd := XM.out.frozen 19
      go_upto_region 24 with fail
      have XM := Lib.hid (XM.out.set (i := 19) (v := .string la) (m' := { M.zero with kind := 10, ae := y0, cost := y1, interval := y2, addr := la }) rfl)
      have HD := Lib.hid (HD.out.cell hg 19 (.string la))
      clear d fd
      generalize V9.setCell ⟨g, 19, none⟩ (.string la) = V10 at *
      obtain ⟨x, hx⟩ : ∃ x : M, x = { M.zero with kind := 10, ae := y0, cost := y1, interval := y2, addr := la } := ⟨_, rfl⟩
      rw [← hx] at XM HX
      clear hx
      go_wp2_with fail
      refine (PS.out _).mono ?_
      rintro e w4 ⟨sa, sc, rfl, hl, hb⟩
      have hgg := XM.out.lt
      have XM := Lib.hid (XM.out.below hb)
      have HD := Lib.hid (HD.out.call hb)
      have HL := Lib.hid hl
      have hsw : w.heap.size ≤ (V10).heap.size := by omega
      clear hb hl PS
      simp only [] at HL
      generalize (V10).heap.size = z at *
      by_cases he : er = 0
      rotate_left
      · have HY := Lib.hid (out_sub h k ho (fun x => he x.1))
        have e1 : (er == 0) = false := by simpa using he
        have e2 : (er != 0) = true := by rw [bne, e1]; rfl
        clear he ho XM
        go_wp2_with (first | (refine wpList_builtK rfl 38 _ rfl (M.cells M.zero) (by kernel_rfl) ?_) | (refine wpList_storeM (b := w.heap.size + 1) (m := M.zero) (m' := M.zero) rfl _ _ rfl rfl rfl HD.out.res ?_))
        exact bodyPost_ret (v := .tuple #[.agg M.zero.cells, .bool false, .int .i64 er]) (ret3 rfl _ _ (w.heap.size + 1) M.zero rfl (HD.out.res.put (m' := M.zero)) (.bool false) rfl (.int .i64 er) rfl) rfl (AnsB.no HY.out (Box.below_setRow HD.out.bel (by omega) _))
      subst he
      cases kn with
      | false =>
        have HY := Lib.hid (out_sub h k ho (fun x => by cases x.2))
        clear ho XM
        go_wp2_with (first | (refine wpList_builtK rfl 38 _ rfl (M.cells M.zero) (by kernel_rfl) ?_) | (refine wpList_storeM (b := w.heap.size + 1) (m := M.zero) (m' := M.zero) rfl _ _ rfl rfl rfl HD.out.res ?_))
        exact bodyPost_ret (v := .tuple #[.agg M.zero.cells, .bool false, .int .i64 0]) (ret3 rfl _ _ (w.heap.size + 1) M.zero rfl (HD.out.res.put (m' := M.zero)) (.bool false) rfl (.int .i64 0) rfl) rfl (AnsB.no HY.out (Box.below_setRow HD.out.bel (by omega) _))
      | true =>
        have HY := Lib.hid (out_yes h k ho)
        rw [HX.out] at HY
        clear ho h k
        have d := XM.out.cs.c24
        have fd := XM.out.frozen 24
        go_upto_region 28 with fail
        have XM := Lib.hid (XM.out.set (i := 24) (v := .slice sa l.length sc) (m' := { x with sa := sa, sl := l, sc := sc }) rfl)
        have HD := Lib.hid (HD.out.cell hg 24 (.slice sa l.length sc))
        have HL := Lib.hid (lst_cell (u := .slice sa l.length sc) (p := ⟨g, 24, none⟩) HL.out hgg)
        clear d fd
        generalize w4.setCell ⟨g, 24, none⟩ (.slice sa l.length sc) = V5 at *
        go_wp2_with (first | (refine wpList_loadM (b := g) (m := { x with sa := sa, sl := l, sc := sc }) rfl _ rfl rfl XM.out ?_) | (refine wpList_storeM (b := w.heap.size + 1) (m := M.zero) (m' := { x with sa := sa, sl := l, sc := sc }) rfl _ _ rfl rfl rfl HD.out.res ?_))
        exact bodyPost_ret (v := .tuple #[.agg (M.cells { x with sa := sa, sl := l, sc := sc }), .bool true, .int .i64 0]) (ret3 rfl _ _ (w.heap.size + 1) { x with sa := sa, sl := l, sc := sc } rfl (HD.out.res.put (m' := { x with sa := sa, sl := l, sc := sc })) (.bool true) rfl (.int .i64 0) rfl) rfl (AnsB.subs HY.out (lst_under HL.out (by omega) _) hsw (Box.below_setRow HD.out.bel (by omega) _))
    have HX := Lib.hid (show hdF 5 s = { M.zero with kind := 10, ae := bt s 0, cost := num2 s 2, interval := num2 s 4, addr := s.extract 6 (6 + nz) } by rw [HX.out]; unfold lgT; rw [if_neg e3])
    generalize s.extract 6 (6 + nz) = ea at *
    generalize s.extract (6 + nz) s.size = er2 at *
    generalize num2 s 2 = y1 at *
    generalize num2 s 4 = y2 at *
    generalize s.extract 2 4 = e1 at *
    generalize s.extract 4 6 = e2 at *
    generalize bt s 0 = y0 at *
    have e4 : (y0 == 3) = false := by simpa using e3
    go_enter Tryz.func70, Tryz.ntmps70
    go_upto_region 1 with fail
    change Code.wp _ _ _ _ ((w.alloc (.cells (cellsT (a, (s, 5))) 79)).alloc (.cells M.zero.cells 38))
    have HD := Lib.hid (D.start w a 5 s)
    generalize (w.alloc (.cells (cellsT (a, (s, 5))) 79)).alloc (.cells M.zero.cells 38) = W at *
    have c0 := HD.out.tl.cell 0 (.int .i64 5) rfl
    have c2 := HD.out.tl.cell 2 (.string s) rfl
    go_upto_region 8 with (first | (refine wpList_builtK rfl 38 _ rfl (M.cells M.zero) (by kernel_rfl) ?_) | (change wpList _ _ _ _ _ (W.alloc (.cells M.zero.cells 38)); refine wpList_storeM (b := W.heap.size) (m := M.zero) (m' := M.zero) rfl _ _ rfl rfl rfl (Bx.new W M.zero) ?_))
    rw [World.setRow_alloc_new]
    have XM := Lib.hid (Bx.new W M.zero)
    have hg := HD.out.res.lt
    have HD := Lib.hid (HD.out.call (balloc (Below.refl _ W) (.cells M.zero.cells 38)))
    clear c0 c2
    generalize W.alloc (.cells M.zero.cells 38) = V at *
    generalize W.heap.size = g at *
    have c0 := HD.out.tl.cell 0 (.int .i64 5) rfl
    go_upto_region 9 with fail
    refine wp_region_still_tail 9 (by kernel_rfl) (by kernel_rfl) ?_
    simp only [List.take_succ_cons, List.take_zero, List.drop_succ_cons, List.drop_zero]
    repeat still_step
    still_call (P1.out _)
    repeat still_step
    still_call (P2.out _)
    repeat still_step
    refine wpStill_nil ?_
    change wpList _ _ _ _ _ V.drew
    have XM := Lib.hid (show Bx V.drew g M.zero from XM.out)
    have HD := Lib.hid HD.out.drew
    generalize V.drew = V at *
    clear c0 i0 v0 s1 s2 b0 b1 P1 P2
    go_upto_region 10 with (first | (refine wpList_builtK rfl 38 _ rfl (M.cells { M.zero with kind := 10, ae := y0, cost := y1, interval := y2 }) (by kernel_rfl) ?_) | (refine wpList_storeM (b := g) (m := M.zero) (m' := { M.zero with kind := 10, ae := y0, cost := y1, interval := y2 }) rfl _ _ rfl rfl rfl XM.out ?_))
    have XM := Lib.hid (XM.out.put (m' := ({ M.zero with kind := 10, ae := y0, cost := y1, interval := y2 } : M)))
    have HD := Lib.hid (HD.out.row hg (M.cells ({ M.zero with kind := 10, ae := y0, cost := y1, interval := y2 } : M)))
    generalize World.setRow V g _ = Y at *
    have c5 : Y.cell? ⟨g, 5, none⟩ = some (.int .i64 y0) := XM.out.cs.c5
    go_wp2_with fail
    refine (PL.out _).mono ?_
    rintro e V7 ⟨rfl, hb⟩
    have XM := Lib.hid (XM.out.below hb)
    have HD := Lib.hid (HD.out.call hb)
    clear hb c5
    have c5 : V7.cell? ⟨g, 5, none⟩ = some (.int .i64 y0) := XM.out.cs.c5
    have d := XM.out.cs.c19
    have fd := XM.out.frozen 19
    go_upto_region 16 with fail
    have XM := Lib.hid (XM.out.set (i := 19) (v := .string ea) (m' := { M.zero with kind := 10, ae := y0, cost := y1, interval := y2, addr := ea }) rfl)
    have HD := Lib.hid (HD.out.cell hg 19 (.string ea))
    clear d fd c5
    generalize V7.setCell ⟨g, 19, none⟩ (.string ea) = V8 at *
    have c5 : V8.cell? ⟨g, 5, none⟩ = some (.int .i64 y0) := XM.out.cs.c5
    go_upto_region 24 with fail
    clear c5
    obtain ⟨x, hx⟩ : ∃ x : M, x = { M.zero with kind := 10, ae := y0, cost := y1, interval := y2, addr := ea } := ⟨_, rfl⟩
    rw [← hx] at XM HX
    clear hx
    go_wp2_with fail
    refine (PS.out _).mono ?_
    rintro e w4 ⟨sa, sc, rfl, hl, hb⟩
    have hgg := XM.out.lt
    have XM := Lib.hid (XM.out.below hb)
    have HD := Lib.hid (HD.out.call hb)
    have HL := Lib.hid hl
    have hsw : w.heap.size ≤ (V8).heap.size := by omega
    clear hb hl PS
    simp only [] at HL
    generalize (V8).heap.size = z at *
    by_cases he : er = 0
    rotate_left
    · have HY := Lib.hid (out_sub h k ho (fun x => he x.1))
      have e1 : (er == 0) = false := by simpa using he
      have e2 : (er != 0) = true := by rw [bne, e1]; rfl
      clear he ho XM
      go_wp2_with (first | (refine wpList_builtK rfl 38 _ rfl (M.cells M.zero) (by kernel_rfl) ?_) | (refine wpList_storeM (b := w.heap.size + 1) (m := M.zero) (m' := M.zero) rfl _ _ rfl rfl rfl HD.out.res ?_))
      exact bodyPost_ret (v := .tuple #[.agg M.zero.cells, .bool false, .int .i64 er]) (ret3 rfl _ _ (w.heap.size + 1) M.zero rfl (HD.out.res.put (m' := M.zero)) (.bool false) rfl (.int .i64 er) rfl) rfl (AnsB.no HY.out (Box.below_setRow HD.out.bel (by omega) _))
    subst he
    cases kn with
    | false =>
      have HY := Lib.hid (out_sub h k ho (fun x => by cases x.2))
      clear ho XM
      go_wp2_with (first | (refine wpList_builtK rfl 38 _ rfl (M.cells M.zero) (by kernel_rfl) ?_) | (refine wpList_storeM (b := w.heap.size + 1) (m := M.zero) (m' := M.zero) rfl _ _ rfl rfl rfl HD.out.res ?_))
      exact bodyPost_ret (v := .tuple #[.agg M.zero.cells, .bool false, .int .i64 0]) (ret3 rfl _ _ (w.heap.size + 1) M.zero rfl (HD.out.res.put (m' := M.zero)) (.bool false) rfl (.int .i64 0) rfl) rfl (AnsB.no HY.out (Box.below_setRow HD.out.bel (by omega) _))
    | true =>
      have HY := Lib.hid (out_yes h k ho)
      rw [HX.out] at HY
      clear ho h k
      have d := XM.out.cs.c24
      have fd := XM.out.frozen 24
      go_upto_region 28 with fail
      have XM := Lib.hid (XM.out.set (i := 24) (v := .slice sa l.length sc) (m' := { x with sa := sa, sl := l, sc := sc }) rfl)
      have HD := Lib.hid (HD.out.cell hg 24 (.slice sa l.length sc))
      have HL := Lib.hid (lst_cell (u := .slice sa l.length sc) (p := ⟨g, 24, none⟩) HL.out hgg)
      clear d fd
      generalize w4.setCell ⟨g, 24, none⟩ (.slice sa l.length sc) = V5 at *
      go_wp2_with (first | (refine wpList_loadM (b := g) (m := { x with sa := sa, sl := l, sc := sc }) rfl _ rfl rfl XM.out ?_) | (refine wpList_storeM (b := w.heap.size + 1) (m := M.zero) (m' := { x with sa := sa, sl := l, sc := sc }) rfl _ _ rfl rfl rfl HD.out.res ?_))
      exact bodyPost_ret (v := .tuple #[.agg (M.cells { x with sa := sa, sl := l, sc := sc }), .bool true, .int .i64 0]) (ret3 rfl _ _ (w.heap.size + 1) { x with sa := sa, sl := l, sc := sc } rfl (HD.out.res.put (m' := { x with sa := sa, sl := l, sc := sc })) (.bool true) rfl (.int .i64 0) rfl) rfl (AnsB.subs HY.out (lst_under HL.out (by omega) _) hsw (Box.below_setRow HD.out.bel (by omega) _))
end Go.Proofs.YtjhfpobjbijcpaaGreatDoor.G8
