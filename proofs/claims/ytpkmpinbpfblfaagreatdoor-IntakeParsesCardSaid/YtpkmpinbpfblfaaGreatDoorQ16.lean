/-
  The document's Get: the message that a TLV says. Conditions: a type from 2 to 5, at most 100000 bytes.
  A TLV's messages and what is known behind it: the document's answer. Conditions: what is known may be; the data aren't long.
-/
import Derived.Test.YtpkmpinbpfblfaaGreatDoorQ03
import Derived.Test.YtpkmpinbpfblfaaGreatDoorQ04
import Derived.Test.YtpkmpinbpfblfaaGreatDoorQ05
import Derived.Test.YtpkmpinbpfblfaaGreatDoorQ10
import Derived.Test.YtpkmpinbpfblfaaGreatDoorQ12
import Derived.Test.YtpkmpinbpfblfaaGreatDoorQ13
import Derived.Test.YtpkmpinbpfblfaaGreatDoorQ15
namespace Go.Proofs.YtpkmpinbpfblfaaGreatDoor.G8
open Go.ChangeShapes Go.WideShapes Go.ChangeAt Go.RowKit
open Go.Proofs.YtpkmpinbpfblfaaGreatDoor.Ms
open Go.Proofs.YtpkmpinbpfblfaaGreatDoor.Box
open Go.Proofs.YtpkmpinbpfblfaaGreatDoor.S1
open Go.Proofs.YtpkmpinbpfblfaaGreatDoor.S5 (AnsS)
open Go.Proofs.YtpkmpinbpfblfaaGreatDoor.Nu
open Go.Proofs.YtpkmpinbpfblfaaGreatDoor.Lk
open Go.Proofs.YtpkmpinbpfblfaaGreatDoor.G1
open Go.Proofs.YtpkmpinbpfblfaaGreatDoor.G6 (lst_cell)
open Go.Proofs.YtpkmpinbpfblfaaGreatDoor.An
open Go.Proofs.YtpkmpinbpfblfaaGreatDoor.F1 (bt bt_nn bt_lt)
open Go.Proofs.YtpkmpinbpfblfaaGreatDoor.F2 (idx sl_m sl_l)
open Go.Proofs.YtpkmpinbpfblfaaGreatDoor.Hx (conv8)
open Go.Proofs.YtpkmpinbpfblfaaGreatDoor.Tl (cellsT)
open Go.Proofs.YtpkmpinbpfblfaaGreatDoor.Bk (Bk wpList_builtK alloc_size)
open Go.Proofs.YtpkmpinbpfblfaaGreatDoor.Hs
set_option linter.unusedVariables false
set_option maxRecDepth 100000
set_option maxRecDepth 100000
theorem sl_h (s : ByteArray) (j : Int) (hi : Nat) (hj : j = hi) (h2 : hi ≤ s.size) (W : World) :
    (Instr.slice 9 (.string s) none (some (.int .i64 j)) none).run Tryz.prog W = .ok (.string (s.extract 0 hi)) W := by
  subst hj
  have := run_slice_string_h (P := Tryz.prog) (t := 9) (s := s) W Tryz.underlying9 .i64 (hi : Int) (by omega) (by omega)
  simpa using this
theorem rnum2 (s : ByteArray) (a b : Nat) (h : b = a + 2) (w : World) : Calls Tryz.prog 50 #[.string (s.extract a b)] w fun e w' => e = .returned (.int .i64 (num2 s a)) ∧ w' = w := by
  subst h
  have := rnum_ext s a (a + 2) w (by omega)
  rw [Nat.add_sub_cancel_left] at this
  exact this
theorem len_any (x : Int) (h0 : 0 ≤ x) (h3 : x ≤ 3) (w : World) : Calls Tryz.prog 51 #[.int .i64 x] w fun e w' => e = .returned (.int .i64 (sizeA x : Int)) ∧ Below w.heap.size w w' := by
  rcases (show x = 0 ∨ x = 1 ∨ x = 2 ∨ x = 3 by omega) with rfl | rfl | rfl | rfl
  all_goals
    go_enter Tryz.func51, Tryz.ntmps51
    go_wp2
    go_ret
    exact ⟨rfl, balloc (Below.refl _ _) _⟩
/-- What stands: the TLV, the answer's block. -/
structure D (w0 W : World) (a : Int) (s : ByteArray) (t : Int) : Prop where
  tl : Bk 31 W w0.heap.size (cellsT (a, (s, t)))
  res : Bx W (w0.heap.size + 1) M.zero
  bel : Below w0.heap.size w0 W
theorem D.call {w0 W W' : World} {a t : Int} {s : ByteArray} (d : D w0 W a s t) (hb : Below W.heap.size W W') : D w0 W' a s t := ⟨d.tl.below hb, d.res.below hb, d.bel.trans (hb.mono d.bel.size)⟩
theorem D.drew {w0 W : World} {a t : Int} {s : ByteArray} (d : D w0 W a s t) : D w0 W.drew a s t := ⟨d.tl, d.res, d.bel.drew⟩
theorem D.row {w0 W : World} {a t : Int} {s : ByteArray} {g : Nat} (d : D w0 W a s t) (hg : w0.heap.size + 1 < g) (cs : Array Value) : D w0 (W.setRow g cs) a s t := ⟨d.tl.row (by omega) _, d.res.row (by omega) _, Box.below_setRow d.bel (by omega) _⟩
theorem D.cell {w0 W : World} {a t : Int} {s : ByteArray} {g : Nat} (d : D w0 W a s t) (hg : w0.heap.size + 1 < g) (i : Nat) (v : Value) : D w0 (W.setCell ⟨g, i, none⟩ v) a s t := ⟨d.tl.off (by show w0.heap.size ≠ g; omega) _, d.res.off (by show w0.heap.size + 1 ≠ g; omega) _, d.bel.setCell (p := ⟨g, i, none⟩) (by show w0.heap.size ≤ g; omega) _⟩
theorem D.start (w : World) (a t : Int) (s : ByteArray) : D w ((w.alloc (.cells (cellsT (a, (s, t))) 31)).alloc (.cells M.zero.cells 43)) a s t := by
  have X0 := Bx.new (w.alloc (.cells (cellsT (a, (s, t))) 31)) M.zero
  rw [alloc_size] at X0
  exact ⟨(Bk.Bk.new _ w _).old _, X0, balloc (balloc (Below.refl _ w) _) _⟩
set_option maxHeartbeats 12800000 in
theorem rget_own (t a : Int) (s : ByteArray) (w : World) (h2 : 2 ≤ t) (h5 : t ≤ 5) (hs : s.size ≤ 100000) : Calls Tryz.prog 31 #[.agg (cellsT (a, (s, t)))] w (AnsB (outF t s) w) := by
  rcases (show t = 2 ∨ t = 3 ∨ t = 4 ∨ t = 5 by omega) with rfl | rfl | rfl | rfl
  · have k : ¬ noF 2 s := fun x => by have := x.1; omega
    by_cases hz : s.size < 6
    · have HY := Lib.hid (out_short (t := 2) (d := s) hz)
      go_enter Tryz.func31, Tryz.ntmps31
      go_upto_region 1 with fail
      change Code.wp _ _ _ _ ((w.alloc (.cells (cellsT (a, (s, 2))) 31)).alloc (.cells M.zero.cells 43))
      have HD := Lib.hid (D.start w a 2 s)
      generalize (w.alloc (.cells (cellsT (a, (s, 2))) 31)).alloc (.cells M.zero.cells 43) = W at *
      have c0 := HD.out.tl.cell 0 (.int .i64 2) rfl
      have c2 := HD.out.tl.cell 2 (.string s) rfl
      go_wp2_with (first | (refine wpList_builtK rfl 43 _ rfl (M.cells M.zero) (by kernel_rfl) ?_) | (refine wpList_storeM (b := w.heap.size + 1) (m := M.zero) (m' := M.zero) rfl _ _ rfl rfl rfl HD.out.res ?_))
      exact bodyPost_ret (v := .tuple #[.agg M.zero.cells, .bool false, .int .i64 2]) (ret3 rfl _ _ (w.heap.size + 1) M.zero rfl (HD.out.res.put (m' := M.zero)) (.bool false) rfl (.int .i64 2) rfl) rfl (AnsB.no HY.out (Box.below_setRow HD.out.bel (by omega) _))
    have h : ¬ s.size < szF 2 s := hz
    have HX := Lib.hid (show hdF 2 s = hd2 s from rfl)
    have HH := Lib.hid (show hd2 s = ({ M.zero with kind := 7, nonce := num2 s 2, interval := num2 s 4 } : M) from rfl)
    obtain ⟨⟨l, kn, er⟩, ho⟩ : ∃ p, outS (s.extract (6) s.size) = p := ⟨_, rfl⟩
    have PS := Lib.hid (fun V => S6.rget_own (s.extract (6) s.size) V (by simp; omega))
    rw [ho] at PS
    have slt := sl_l s 6 (6) s.size rfl (by omega) rfl
    have p1 := rnum2 s 2 4 rfl
    have p2 := rnum2 s 4 6 rfl
    have P1 := Lib.hid p1
    have P2 := Lib.hid p2
    clear p1 p2
    have s1 := sl_m s 2 4 2 4 rfl rfl (by omega) (by omega)
    have s2 := sl_m s 4 6 4 6 rfl rfl (by omega) (by omega)
    generalize num2 s 2 = y1 at *
    generalize num2 s 4 = y2 at *
    generalize s.extract 2 4 = e1 at *
    generalize s.extract 4 6 = e2 at *
    generalize hd2 s = x at *
    go_enter Tryz.func31, Tryz.ntmps31
    go_upto_region 1 with fail
    change Code.wp _ _ _ _ ((w.alloc (.cells (cellsT (a, (s, 2))) 31)).alloc (.cells M.zero.cells 43))
    have HD := Lib.hid (D.start w a 2 s)
    generalize (w.alloc (.cells (cellsT (a, (s, 2))) 31)).alloc (.cells M.zero.cells 43) = W at *
    have c0 := HD.out.tl.cell 0 (.int .i64 2) rfl
    have c2 := HD.out.tl.cell 2 (.string s) rfl
    go_upto_region 8 with (first | (refine wpList_builtK rfl 43 _ rfl (M.cells M.zero) (by kernel_rfl) ?_) | (change wpList _ _ _ _ _ (W.alloc (.cells M.zero.cells 43)); refine wpList_storeM (b := W.heap.size) (m := M.zero) (m' := M.zero) rfl _ _ rfl rfl rfl (Bx.new W M.zero) ?_))
    rw [World.setRow_alloc_new]
    have XM := Lib.hid (Bx.new W M.zero)
    have hg := HD.out.res.lt
    have HD := Lib.hid (HD.out.call (balloc (Below.refl _ W) (.cells M.zero.cells 43)))
    clear c0 c2
    generalize W.alloc (.cells M.zero.cells 43) = V at *
    generalize W.heap.size = g at *
    have c0 := HD.out.tl.cell 0 (.int .i64 2) rfl
    go_upto_region 19 with fail
    refine wp_region_still_tail 6 (by kernel_rfl) (by kernel_rfl) ?_
    simp only [List.take_succ_cons, List.take_zero, List.drop_succ_cons, List.drop_zero]
    repeat still_step
    still_call (P1.out _)
    repeat still_step
    still_call (P2.out _)
    repeat still_step
    refine wpStill_nil ?_
    change wpList _ _ _ _ _ V.drew
    have XM := Lib.hid (show Bx V.drew g M.zero from XM.out)
    have HD := Lib.hid HD.out.drew
    generalize V.drew = V at *
    clear c0
    have HH := HH.out
    subst HH
    go_upto_region 24 with (first | (refine wpList_builtK rfl 43 _ rfl (M.cells { M.zero with kind := 7, nonce := y1, interval := y2 }) (by kernel_rfl) ?_) | (refine wpList_storeM (b := g) (m := M.zero) (m' := { M.zero with kind := 7, nonce := y1, interval := y2 }) rfl _ _ rfl rfl rfl XM.out ?_))
    have XM := Lib.hid (XM.out.put (m' := { M.zero with kind := 7, nonce := y1, interval := y2 }))
    have HD := Lib.hid (HD.out.row hg (M.cells { M.zero with kind := 7, nonce := y1, interval := y2 }))
    generalize World.setRow V g _ = Y at *
    obtain ⟨x, hx⟩ : ∃ x : M, x = { M.zero with kind := 7, nonce := y1, interval := y2 } := ⟨_, rfl⟩
    rw [← hx] at XM HX
    clear hx
    go_wp2_with fail
    refine (PS.out _).mono ?_
    rintro e w4 ⟨sa, sc, rfl, hl, hb⟩
    have hgg := XM.out.lt
    have XM := Lib.hid (XM.out.below hb)
    have HD := Lib.hid (HD.out.call hb)
    have HL := Lib.hid hl
    have hsw : w.heap.size ≤ (Y).heap.size := by omega
    clear hb hl PS
    simp only [] at HL
    generalize (Y).heap.size = z at *
    by_cases he : er = 0
    rotate_left
    · have HY := Lib.hid (out_sub h k ho (fun x => he x.1))
      have e1 : (er == 0) = false := by simpa using he
      have e2 : (er != 0) = true := by rw [bne, e1]; rfl
      clear he ho XM
      go_wp2_with (first | (refine wpList_builtK rfl 43 _ rfl (M.cells M.zero) (by kernel_rfl) ?_) | (refine wpList_storeM (b := w.heap.size + 1) (m := M.zero) (m' := M.zero) rfl _ _ rfl rfl rfl HD.out.res ?_))
      exact bodyPost_ret (v := .tuple #[.agg M.zero.cells, .bool false, .int .i64 er]) (ret3 rfl _ _ (w.heap.size + 1) M.zero rfl (HD.out.res.put (m' := M.zero)) (.bool false) rfl (.int .i64 er) rfl) rfl (AnsB.no HY.out (Box.below_setRow HD.out.bel (by omega) _))
    subst he
    cases kn with
    | false =>
      have HY := Lib.hid (out_sub h k ho (fun x => by cases x.2))
      clear ho XM
      go_wp2_with (first | (refine wpList_builtK rfl 43 _ rfl (M.cells M.zero) (by kernel_rfl) ?_) | (refine wpList_storeM (b := w.heap.size + 1) (m := M.zero) (m' := M.zero) rfl _ _ rfl rfl rfl HD.out.res ?_))
      exact bodyPost_ret (v := .tuple #[.agg M.zero.cells, .bool false, .int .i64 0]) (ret3 rfl _ _ (w.heap.size + 1) M.zero rfl (HD.out.res.put (m' := M.zero)) (.bool false) rfl (.int .i64 0) rfl) rfl (AnsB.no HY.out (Box.below_setRow HD.out.bel (by omega) _))
    | true =>
      have HY := Lib.hid (out_yes h k ho)
      rw [HX.out] at HY
      clear ho h k
      have d := XM.out.cs.c24
      have fd := XM.out.frozen 24
      go_upto_region 28 with fail
      have XM := Lib.hid (XM.out.set (i := 24) (v := .slice sa l.length sc) (m' := { x with sa := sa, sl := l, sc := sc }) rfl)
      have HD := Lib.hid (HD.out.cell hg 24 (.slice sa l.length sc))
      have HL := Lib.hid (lst_cell (u := .slice sa l.length sc) (p := ⟨g, 24, none⟩) HL.out hgg)
      clear d fd
      generalize w4.setCell ⟨g, 24, none⟩ (.slice sa l.length sc) = V5 at *
      go_wp2_with (first | (refine wpList_loadM (b := g) (m := { x with sa := sa, sl := l, sc := sc }) rfl _ rfl rfl XM.out ?_) | (refine wpList_storeM (b := w.heap.size + 1) (m := M.zero) (m' := { x with sa := sa, sl := l, sc := sc }) rfl _ _ rfl rfl rfl HD.out.res ?_))
      exact bodyPost_ret (v := .tuple #[.agg (M.cells { x with sa := sa, sl := l, sc := sc }), .bool true, .int .i64 0]) (ret3 rfl _ _ (w.heap.size + 1) { x with sa := sa, sl := l, sc := sc } rfl (HD.out.res.put (m' := { x with sa := sa, sl := l, sc := sc })) (.bool true) rfl (.int .i64 0) rfl) rfl (AnsB.subs HY.out (lst_under HL.out (by omega) _) hsw (Box.below_setRow HD.out.bel (by omega) _))
  · have k : ¬ noF 3 s := fun x => by have := x.1; omega
    by_cases hz : s.size < 2
    · have HY := Lib.hid (out_short (t := 3) (d := s) hz)
      go_enter Tryz.func31, Tryz.ntmps31
      go_upto_region 1 with fail
      change Code.wp _ _ _ _ ((w.alloc (.cells (cellsT (a, (s, 3))) 31)).alloc (.cells M.zero.cells 43))
      have HD := Lib.hid (D.start w a 3 s)
      generalize (w.alloc (.cells (cellsT (a, (s, 3))) 31)).alloc (.cells M.zero.cells 43) = W at *
      have c0 := HD.out.tl.cell 0 (.int .i64 3) rfl
      have c2 := HD.out.tl.cell 2 (.string s) rfl
      go_wp2_with (first | (refine wpList_builtK rfl 43 _ rfl (M.cells M.zero) (by kernel_rfl) ?_) | (refine wpList_storeM (b := w.heap.size + 1) (m := M.zero) (m' := M.zero) rfl _ _ rfl rfl rfl HD.out.res ?_))
      exact bodyPost_ret (v := .tuple #[.agg M.zero.cells, .bool false, .int .i64 2]) (ret3 rfl _ _ (w.heap.size + 1) M.zero rfl (HD.out.res.put (m' := M.zero)) (.bool false) rfl (.int .i64 2) rfl) rfl (AnsB.no HY.out (Box.below_setRow HD.out.bel (by omega) _))
    have h : ¬ s.size < szF 3 s := hz
    have HX := Lib.hid (show hdF 3 s = hd3 s from rfl)
    have HH := Lib.hid (show hd3 s = ({ M.zero with kind := 8, nonce := num2 s 0 } : M) from rfl)
    obtain ⟨⟨l, kn, er⟩, ho⟩ : ∃ p, outS (s.extract (2) s.size) = p := ⟨_, rfl⟩
    have PS := Lib.hid (fun V => S6.rget_own (s.extract (2) s.size) V (by simp; omega))
    rw [ho] at PS
    have slt := sl_l s 2 (2) s.size rfl (by omega) rfl
    have p1 := rnum2 s 0 2 rfl
    have P1 := Lib.hid p1
    clear p1
    have s1 := sl_h s 2 2 rfl (by omega)
    generalize num2 s 0 = y1 at *
    generalize s.extract 0 2 = e1 at *
    generalize hd3 s = x at *
    go_enter Tryz.func31, Tryz.ntmps31
    go_upto_region 1 with fail
    change Code.wp _ _ _ _ ((w.alloc (.cells (cellsT (a, (s, 3))) 31)).alloc (.cells M.zero.cells 43))
    have HD := Lib.hid (D.start w a 3 s)
    generalize (w.alloc (.cells (cellsT (a, (s, 3))) 31)).alloc (.cells M.zero.cells 43) = W at *
    have c0 := HD.out.tl.cell 0 (.int .i64 3) rfl
    have c2 := HD.out.tl.cell 2 (.string s) rfl
    go_upto_region 8 with (first | (refine wpList_builtK rfl 43 _ rfl (M.cells M.zero) (by kernel_rfl) ?_) | (change wpList _ _ _ _ _ (W.alloc (.cells M.zero.cells 43)); refine wpList_storeM (b := W.heap.size) (m := M.zero) (m' := M.zero) rfl _ _ rfl rfl rfl (Bx.new W M.zero) ?_))
    rw [World.setRow_alloc_new]
    have XM := Lib.hid (Bx.new W M.zero)
    have hg := HD.out.res.lt
    have HD := Lib.hid (HD.out.call (balloc (Below.refl _ W) (.cells M.zero.cells 43)))
    clear c0 c2
    generalize W.alloc (.cells M.zero.cells 43) = V at *
    generalize W.heap.size = g at *
    have c0 := HD.out.tl.cell 0 (.int .i64 3) rfl
    go_wp2_with fail
    refine (P1.out _).mono ?_
    rintro e V ⟨rfl, rfl⟩
    clear c0
    have HH := HH.out
    subst HH
    go_upto_region 24 with (first | (refine wpList_builtK rfl 43 _ rfl (M.cells { M.zero with kind := 8, nonce := y1 }) (by kernel_rfl) ?_) | (refine wpList_storeM (b := g) (m := M.zero) (m' := { M.zero with kind := 8, nonce := y1 }) rfl _ _ rfl rfl rfl XM.out ?_))
    have XM := Lib.hid (XM.out.put (m' := { M.zero with kind := 8, nonce := y1 }))
    have HD := Lib.hid (HD.out.row hg (M.cells { M.zero with kind := 8, nonce := y1 }))
    generalize World.setRow V g _ = Y at *
    obtain ⟨x, hx⟩ : ∃ x : M, x = { M.zero with kind := 8, nonce := y1 } := ⟨_, rfl⟩
    rw [← hx] at XM HX
    clear hx
    go_wp2_with fail
    refine (PS.out _).mono ?_
    rintro e w4 ⟨sa, sc, rfl, hl, hb⟩
    have hgg := XM.out.lt
    have XM := Lib.hid (XM.out.below hb)
    have HD := Lib.hid (HD.out.call hb)
    have HL := Lib.hid hl
    have hsw : w.heap.size ≤ (Y).heap.size := by omega
    clear hb hl PS
    simp only [] at HL
    generalize (Y).heap.size = z at *
    by_cases he : er = 0
    rotate_left
    · have HY := Lib.hid (out_sub h k ho (fun x => he x.1))
      have e1 : (er == 0) = false := by simpa using he
      have e2 : (er != 0) = true := by rw [bne, e1]; rfl
      clear he ho XM
      go_wp2_with (first | (refine wpList_builtK rfl 43 _ rfl (M.cells M.zero) (by kernel_rfl) ?_) | (refine wpList_storeM (b := w.heap.size + 1) (m := M.zero) (m' := M.zero) rfl _ _ rfl rfl rfl HD.out.res ?_))
      exact bodyPost_ret (v := .tuple #[.agg M.zero.cells, .bool false, .int .i64 er]) (ret3 rfl _ _ (w.heap.size + 1) M.zero rfl (HD.out.res.put (m' := M.zero)) (.bool false) rfl (.int .i64 er) rfl) rfl (AnsB.no HY.out (Box.below_setRow HD.out.bel (by omega) _))
    subst he
    cases kn with
    | false =>
      have HY := Lib.hid (out_sub h k ho (fun x => by cases x.2))
      clear ho XM
      go_wp2_with (first | (refine wpList_builtK rfl 43 _ rfl (M.cells M.zero) (by kernel_rfl) ?_) | (refine wpList_storeM (b := w.heap.size + 1) (m := M.zero) (m' := M.zero) rfl _ _ rfl rfl rfl HD.out.res ?_))
      exact bodyPost_ret (v := .tuple #[.agg M.zero.cells, .bool false, .int .i64 0]) (ret3 rfl _ _ (w.heap.size + 1) M.zero rfl (HD.out.res.put (m' := M.zero)) (.bool false) rfl (.int .i64 0) rfl) rfl (AnsB.no HY.out (Box.below_setRow HD.out.bel (by omega) _))
    | true =>
      have HY := Lib.hid (out_yes h k ho)
      rw [HX.out] at HY
      clear ho h k
      have d := XM.out.cs.c24
      have fd := XM.out.frozen 24
      go_upto_region 28 with fail
      have XM := Lib.hid (XM.out.set (i := 24) (v := .slice sa l.length sc) (m' := { x with sa := sa, sl := l, sc := sc }) rfl)
      have HD := Lib.hid (HD.out.cell hg 24 (.slice sa l.length sc))
      have HL := Lib.hid (lst_cell (u := .slice sa l.length sc) (p := ⟨g, 24, none⟩) HL.out hgg)
      clear d fd
      generalize w4.setCell ⟨g, 24, none⟩ (.slice sa l.length sc) = V5 at *
      go_wp2_with (first | (refine wpList_loadM (b := g) (m := { x with sa := sa, sl := l, sc := sc }) rfl _ rfl rfl XM.out ?_) | (refine wpList_storeM (b := w.heap.size + 1) (m := M.zero) (m' := { x with sa := sa, sl := l, sc := sc }) rfl _ _ rfl rfl rfl HD.out.res ?_))
      exact bodyPost_ret (v := .tuple #[.agg (M.cells { x with sa := sa, sl := l, sc := sc }), .bool true, .int .i64 0]) (ret3 rfl _ _ (w.heap.size + 1) { x with sa := sa, sl := l, sc := sc } rfl (HD.out.res.put (m' := { x with sa := sa, sl := l, sc := sc })) (.bool true) rfl (.int .i64 0) rfl) rfl (AnsB.subs HY.out (lst_under HL.out (by omega) _) hsw (Box.below_setRow HD.out.bel (by omega) _))
  · have k : ¬ noF 4 s := fun x => by have := x.1; omega
    by_cases hz : s.size < 6
    · have HY := Lib.hid (out_short (t := 4) (d := s) hz)
      go_enter Tryz.func31, Tryz.ntmps31
      go_upto_region 1 with fail
      change Code.wp _ _ _ _ ((w.alloc (.cells (cellsT (a, (s, 4))) 31)).alloc (.cells M.zero.cells 43))
      have HD := Lib.hid (D.start w a 4 s)
      generalize (w.alloc (.cells (cellsT (a, (s, 4))) 31)).alloc (.cells M.zero.cells 43) = W at *
      have c0 := HD.out.tl.cell 0 (.int .i64 4) rfl
      have c2 := HD.out.tl.cell 2 (.string s) rfl
      go_wp2_with (first | (refine wpList_builtK rfl 43 _ rfl (M.cells M.zero) (by kernel_rfl) ?_) | (refine wpList_storeM (b := w.heap.size + 1) (m := M.zero) (m' := M.zero) rfl _ _ rfl rfl rfl HD.out.res ?_))
      exact bodyPost_ret (v := .tuple #[.agg M.zero.cells, .bool false, .int .i64 2]) (ret3 rfl _ _ (w.heap.size + 1) M.zero rfl (HD.out.res.put (m' := M.zero)) (.bool false) rfl (.int .i64 2) rfl) rfl (AnsB.no HY.out (Box.below_setRow HD.out.bel (by omega) _))
    have h : ¬ s.size < szF 4 s := hz
    have HX := Lib.hid (show hdF 4 s = hd4 s from rfl)
    have HH := Lib.hid (show hd4 s = ({ M.zero with kind := 9, flags := bt s 0 / 128, seq := num2 s 2, interval := num2 s 4 } : M) from rfl)
    obtain ⟨⟨l, kn, er⟩, ho⟩ : ∃ p, outS (s.extract (6) s.size) = p := ⟨_, rfl⟩
    have PS := Lib.hid (fun V => S6.rget_own (s.extract (6) s.size) V (by simp; omega))
    rw [ho] at PS
    have slt := sl_l s 6 (6) s.size rfl (by omega) rfl
    have p1 := rnum2 s 2 4 rfl
    have p2 := rnum2 s 4 6 rfl
    have P1 := Lib.hid p1
    have P2 := Lib.hid p2
    clear p1 p2
    have s1 := sl_m s 2 4 2 4 rfl rfl (by omega) (by omega)
    have s2 := sl_m s 4 6 4 6 rfl rfl (by omega) (by omega)
    have i0 := idx s 0 0 rfl (by omega)
    have b0 := bt_nn s 0
    have b1 := bt_lt s 0
    have v0 := conv8 (bt s 0) b0 b1
    have HQ : Hid (IntKind.i64.wrap ((bt s 0).tdiv 128) = bt s 0 / 128) := Lib.hid (by rw [Int.tdiv_eq_ediv_of_nonneg b0]; exact IntWalk.i64_in _ (by omega))
    generalize num2 s 2 = y1 at *
    generalize num2 s 4 = y2 at *
    generalize s.extract 2 4 = e1 at *
    generalize s.extract 4 6 = e2 at *
    generalize bt s 0 = y0 at *
    generalize hd4 s = x at *
    go_enter Tryz.func31, Tryz.ntmps31
    go_upto_region 1 with fail
    change Code.wp _ _ _ _ ((w.alloc (.cells (cellsT (a, (s, 4))) 31)).alloc (.cells M.zero.cells 43))
    have HD := Lib.hid (D.start w a 4 s)
    generalize (w.alloc (.cells (cellsT (a, (s, 4))) 31)).alloc (.cells M.zero.cells 43) = W at *
    have c0 := HD.out.tl.cell 0 (.int .i64 4) rfl
    have c2 := HD.out.tl.cell 2 (.string s) rfl
    go_upto_region 8 with (first | (refine wpList_builtK rfl 43 _ rfl (M.cells M.zero) (by kernel_rfl) ?_) | (change wpList _ _ _ _ _ (W.alloc (.cells M.zero.cells 43)); refine wpList_storeM (b := W.heap.size) (m := M.zero) (m' := M.zero) rfl _ _ rfl rfl rfl (Bx.new W M.zero) ?_))
    rw [World.setRow_alloc_new]
    have XM := Lib.hid (Bx.new W M.zero)
    have hg := HD.out.res.lt
    have HD := Lib.hid (HD.out.call (balloc (Below.refl _ W) (.cells M.zero.cells 43)))
    clear c0 c2
    generalize W.alloc (.cells M.zero.cells 43) = V at *
    generalize W.heap.size = g at *
    have c0 := HD.out.tl.cell 0 (.int .i64 4) rfl
    go_upto_region 23 with fail
    refine wp_region_still_tail 10 (by kernel_rfl) (by kernel_rfl) ?_
    simp only [List.take_succ_cons, List.take_zero, List.drop_succ_cons, List.drop_zero]
    repeat still_step
    still_call (P1.out _)
    repeat still_step
    still_call (P2.out _)
    repeat still_step
    refine wpStill_nil ?_
    change wpList _ _ _ _ _ V.drew
    have XM := Lib.hid (show Bx V.drew g M.zero from XM.out)
    have HD := Lib.hid HD.out.drew
    generalize V.drew = V at *
    rw [HQ.out]
    clear c0
    have HH := HH.out
    subst HH
    go_upto_region 24 with (first | (refine wpList_builtK rfl 43 _ rfl (M.cells { M.zero with kind := 9, flags := y0 / 128, seq := y1, interval := y2 }) (by kernel_rfl) ?_) | (refine wpList_storeM (b := g) (m := M.zero) (m' := { M.zero with kind := 9, flags := y0 / 128, seq := y1, interval := y2 }) rfl _ _ rfl rfl rfl XM.out ?_))
    have XM := Lib.hid (XM.out.put (m' := { M.zero with kind := 9, flags := y0 / 128, seq := y1, interval := y2 }))
    have HD := Lib.hid (HD.out.row hg (M.cells { M.zero with kind := 9, flags := y0 / 128, seq := y1, interval := y2 }))
    generalize World.setRow V g _ = Y at *
    obtain ⟨x, hx⟩ : ∃ x : M, x = { M.zero with kind := 9, flags := y0 / 128, seq := y1, interval := y2 } := ⟨_, rfl⟩
    rw [← hx] at XM HX
    clear hx
    go_wp2_with fail
    refine (PS.out _).mono ?_
    rintro e w4 ⟨sa, sc, rfl, hl, hb⟩
    have hgg := XM.out.lt
    have XM := Lib.hid (XM.out.below hb)
    have HD := Lib.hid (HD.out.call hb)
    have HL := Lib.hid hl
    have hsw : w.heap.size ≤ (Y).heap.size := by omega
    clear hb hl PS
    simp only [] at HL
    generalize (Y).heap.size = z at *
    by_cases he : er = 0
    rotate_left
    · have HY := Lib.hid (out_sub h k ho (fun x => he x.1))
      have e1 : (er == 0) = false := by simpa using he
      have e2 : (er != 0) = true := by rw [bne, e1]; rfl
      clear he ho XM
      go_wp2_with (first | (refine wpList_builtK rfl 43 _ rfl (M.cells M.zero) (by kernel_rfl) ?_) | (refine wpList_storeM (b := w.heap.size + 1) (m := M.zero) (m' := M.zero) rfl _ _ rfl rfl rfl HD.out.res ?_))
      exact bodyPost_ret (v := .tuple #[.agg M.zero.cells, .bool false, .int .i64 er]) (ret3 rfl _ _ (w.heap.size + 1) M.zero rfl (HD.out.res.put (m' := M.zero)) (.bool false) rfl (.int .i64 er) rfl) rfl (AnsB.no HY.out (Box.below_setRow HD.out.bel (by omega) _))
    subst he
    cases kn with
    | false =>
      have HY := Lib.hid (out_sub h k ho (fun x => by cases x.2))
      clear ho XM
      go_wp2_with (first | (refine wpList_builtK rfl 43 _ rfl (M.cells M.zero) (by kernel_rfl) ?_) | (refine wpList_storeM (b := w.heap.size + 1) (m := M.zero) (m' := M.zero) rfl _ _ rfl rfl rfl HD.out.res ?_))
      exact bodyPost_ret (v := .tuple #[.agg M.zero.cells, .bool false, .int .i64 0]) (ret3 rfl _ _ (w.heap.size + 1) M.zero rfl (HD.out.res.put (m' := M.zero)) (.bool false) rfl (.int .i64 0) rfl) rfl (AnsB.no HY.out (Box.below_setRow HD.out.bel (by omega) _))
    | true =>
      have HY := Lib.hid (out_yes h k ho)
      rw [HX.out] at HY
      clear ho h k
      have d := XM.out.cs.c24
      have fd := XM.out.frozen 24
      go_upto_region 28 with fail
      have XM := Lib.hid (XM.out.set (i := 24) (v := .slice sa l.length sc) (m' := { x with sa := sa, sl := l, sc := sc }) rfl)
      have HD := Lib.hid (HD.out.cell hg 24 (.slice sa l.length sc))
      have HL := Lib.hid (lst_cell (u := .slice sa l.length sc) (p := ⟨g, 24, none⟩) HL.out hgg)
      clear d fd
      generalize w4.setCell ⟨g, 24, none⟩ (.slice sa l.length sc) = V5 at *
      go_wp2_with (first | (refine wpList_loadM (b := g) (m := { x with sa := sa, sl := l, sc := sc }) rfl _ rfl rfl XM.out ?_) | (refine wpList_storeM (b := w.heap.size + 1) (m := M.zero) (m' := { x with sa := sa, sl := l, sc := sc }) rfl _ _ rfl rfl rfl HD.out.res ?_))
      exact bodyPost_ret (v := .tuple #[.agg (M.cells { x with sa := sa, sl := l, sc := sc }), .bool true, .int .i64 0]) (ret3 rfl _ _ (w.heap.size + 1) { x with sa := sa, sl := l, sc := sc } rfl (HD.out.res.put (m' := { x with sa := sa, sl := l, sc := sc })) (.bool true) rfl (.int .i64 0) rfl) rfl (AnsB.subs HY.out (lst_under HL.out (by omega) _) hsw (Box.below_setRow HD.out.bel (by omega) _))
  · by_cases hz : s.size < 6
    · have HY := Lib.hid (out_short (t := 5) (d := s) (show s.size < 6 + sizeA (bt s 0) by omega))
      go_enter Tryz.func31, Tryz.ntmps31
      go_upto_region 1 with fail
      change Code.wp _ _ _ _ ((w.alloc (.cells (cellsT (a, (s, 5))) 31)).alloc (.cells M.zero.cells 43))
      have HD := Lib.hid (D.start w a 5 s)
      generalize (w.alloc (.cells (cellsT (a, (s, 5))) 31)).alloc (.cells M.zero.cells 43) = W at *
      have c0 := HD.out.tl.cell 0 (.int .i64 5) rfl
      have c2 := HD.out.tl.cell 2 (.string s) rfl
      go_wp2_with (first | (refine wpList_builtK rfl 43 _ rfl (M.cells M.zero) (by kernel_rfl) ?_) | (refine wpList_storeM (b := w.heap.size + 1) (m := M.zero) (m' := M.zero) rfl _ _ rfl rfl rfl HD.out.res ?_))
      exact bodyPost_ret (v := .tuple #[.agg M.zero.cells, .bool false, .int .i64 2]) (ret3 rfl _ _ (w.heap.size + 1) M.zero rfl (HD.out.res.put (m' := M.zero)) (.bool false) rfl (.int .i64 2) rfl) rfl (AnsB.no HY.out (Box.below_setRow HD.out.bel (by omega) _))
    have p1 := rnum2 s 2 4 rfl
    have p2 := rnum2 s 4 6 rfl
    have P1 := Lib.hid p1
    have P2 := Lib.hid p2
    clear p1 p2
    have s1 := sl_m s 2 4 2 4 rfl rfl (by omega) (by omega)
    have s2 := sl_m s 4 6 4 6 rfl rfl (by omega) (by omega)
    have i0 := idx s 0 0 rfl (by omega)
    have b0 := bt_nn s 0
    have b1 := bt_lt s 0
    have v0 := conv8 (bt s 0) b0 b1
    by_cases k3 : 3 < bt s 0
    · have HY := Lib.hid (out_none (t := 5) (d := s) (show ¬ s.size < 6 + sizeA (bt s 0) by rw [size_far k3]; omega) ⟨rfl, k3⟩)
      generalize num2 s 2 = y1 at *
      generalize num2 s 4 = y2 at *
      generalize s.extract 2 4 = e1 at *
      generalize s.extract 4 6 = e2 at *
      generalize bt s 0 = y0 at *
      go_enter Tryz.func31, Tryz.ntmps31
      go_upto_region 1 with fail
      change Code.wp _ _ _ _ ((w.alloc (.cells (cellsT (a, (s, 5))) 31)).alloc (.cells M.zero.cells 43))
      have HD := Lib.hid (D.start w a 5 s)
      generalize (w.alloc (.cells (cellsT (a, (s, 5))) 31)).alloc (.cells M.zero.cells 43) = W at *
      have c0 := HD.out.tl.cell 0 (.int .i64 5) rfl
      have c2 := HD.out.tl.cell 2 (.string s) rfl
      go_upto_region 8 with (first | (refine wpList_builtK rfl 43 _ rfl (M.cells M.zero) (by kernel_rfl) ?_) | (change wpList _ _ _ _ _ (W.alloc (.cells M.zero.cells 43)); refine wpList_storeM (b := W.heap.size) (m := M.zero) (m' := M.zero) rfl _ _ rfl rfl rfl (Bx.new W M.zero) ?_))
      rw [World.setRow_alloc_new]
      have XM := Lib.hid (Bx.new W M.zero)
      have hg := HD.out.res.lt
      have HD := Lib.hid (HD.out.call (balloc (Below.refl _ W) (.cells M.zero.cells 43)))
      clear c0 c2
      generalize W.alloc (.cells M.zero.cells 43) = V at *
      generalize W.heap.size = g at *
      have c0 := HD.out.tl.cell 0 (.int .i64 5) rfl
      go_upto_region 9 with fail
      refine wp_region_still_tail 9 (by kernel_rfl) (by kernel_rfl) ?_
      simp only [List.take_succ_cons, List.take_zero, List.drop_succ_cons, List.drop_zero]
      repeat still_step
      still_call (P1.out _)
      repeat still_step
      still_call (P2.out _)
      repeat still_step
      refine wpStill_nil ?_
      change wpList _ _ _ _ _ V.drew
      have XM := Lib.hid (show Bx V.drew g M.zero from XM.out)
      have HD := Lib.hid HD.out.drew
      generalize V.drew = V at *
      clear c0 i0 v0 s1 s2 b0 b1 P1 P2
      go_upto_region 10 with (first | (refine wpList_builtK rfl 43 _ rfl (M.cells { M.zero with kind := 10, ae := y0, cost := y1, interval := y2 }) (by kernel_rfl) ?_) | (refine wpList_storeM (b := g) (m := M.zero) (m' := { M.zero with kind := 10, ae := y0, cost := y1, interval := y2 }) rfl _ _ rfl rfl rfl XM.out ?_))
      have XM := Lib.hid (XM.out.put (m' := ({ M.zero with kind := 10, ae := y0, cost := y1, interval := y2 } : M)))
      have HD := Lib.hid (HD.out.row hg (M.cells ({ M.zero with kind := 10, ae := y0, cost := y1, interval := y2 } : M)))
      generalize World.setRow V g _ = Y at *
      have c5 : Y.cell? ⟨g, 5, none⟩ = some (.int .i64 y0) := XM.out.cs.c5
      go_wp2_with (first | (refine wpList_builtK rfl 43 _ rfl (M.cells M.zero) (by kernel_rfl) ?_) | (refine wpList_storeM (b := w.heap.size + 1) (m := M.zero) (m' := M.zero) rfl _ _ rfl rfl rfl HD.out.res ?_))
      exact bodyPost_ret (v := .tuple #[.agg M.zero.cells, .bool false, .int .i64 0]) (ret3 rfl _ _ (w.heap.size + 1) M.zero rfl (HD.out.res.put (m' := M.zero)) (.bool false) rfl (.int .i64 0) rfl) rfl (AnsB.no HY.out (Box.below_setRow HD.out.bel (by omega) _))
    have k : ¬ noF 5 s := fun x => k3 x.2
    have PL := Lib.hid (fun V => len_any (bt s 0) b0 (by omega) V)
    have nle := sizeA_le (bt s 0)
    obtain ⟨nz, hnz⟩ : ∃ n, sizeA (bt s 0) = n := ⟨_, rfl⟩
    have hzz : szF 5 s = 6 + nz := by show 6 + sizeA (bt s 0) = _; rw [hnz]
    have HX0 : hdF 5 s = { M.zero with kind := 10, ae := bt s 0, cost := num2 s 2, interval := num2 s 4, addr := lgT (bt s 0) (s.extract 6 (6 + nz)) } := by show hd5 s = _; unfold hd5; rw [hnz]
    rw [hnz] at PL nle
    clear hnz
    by_cases hh : s.size < 6 + nz
    · have HY := Lib.hid (out_short (t := 5) (d := s) (by rw [hzz]; exact hh))
      have hh2 : (s.size : Int) < 6 + (nz : Int) := by omega
      clear HX0 hzz
      generalize num2 s 2 = y1 at *
      generalize num2 s 4 = y2 at *
      generalize s.extract 2 4 = e1 at *
      generalize s.extract 4 6 = e2 at *
      generalize bt s 0 = y0 at *
      go_enter Tryz.func31, Tryz.ntmps31
      go_upto_region 1 with fail
      change Code.wp _ _ _ _ ((w.alloc (.cells (cellsT (a, (s, 5))) 31)).alloc (.cells M.zero.cells 43))
      have HD := Lib.hid (D.start w a 5 s)
      generalize (w.alloc (.cells (cellsT (a, (s, 5))) 31)).alloc (.cells M.zero.cells 43) = W at *
      have c0 := HD.out.tl.cell 0 (.int .i64 5) rfl
      have c2 := HD.out.tl.cell 2 (.string s) rfl
      go_upto_region 8 with (first | (refine wpList_builtK rfl 43 _ rfl (M.cells M.zero) (by kernel_rfl) ?_) | (change wpList _ _ _ _ _ (W.alloc (.cells M.zero.cells 43)); refine wpList_storeM (b := W.heap.size) (m := M.zero) (m' := M.zero) rfl _ _ rfl rfl rfl (Bx.new W M.zero) ?_))
      rw [World.setRow_alloc_new]
      have XM := Lib.hid (Bx.new W M.zero)
      have hg := HD.out.res.lt
      have HD := Lib.hid (HD.out.call (balloc (Below.refl _ W) (.cells M.zero.cells 43)))
      clear c0 c2
      generalize W.alloc (.cells M.zero.cells 43) = V at *
      generalize W.heap.size = g at *
      have c0 := HD.out.tl.cell 0 (.int .i64 5) rfl
      go_upto_region 9 with fail
      refine wp_region_still_tail 9 (by kernel_rfl) (by kernel_rfl) ?_
      simp only [List.take_succ_cons, List.take_zero, List.drop_succ_cons, List.drop_zero]
      repeat still_step
      still_call (P1.out _)
      repeat still_step
      still_call (P2.out _)
      repeat still_step
      refine wpStill_nil ?_
      change wpList _ _ _ _ _ V.drew
      have XM := Lib.hid (show Bx V.drew g M.zero from XM.out)
      have HD := Lib.hid HD.out.drew
      generalize V.drew = V at *
      clear c0 i0 v0 s1 s2 b0 b1 P1 P2
      go_upto_region 10 with (first | (refine wpList_builtK rfl 43 _ rfl (M.cells { M.zero with kind := 10, ae := y0, cost := y1, interval := y2 }) (by kernel_rfl) ?_) | (refine wpList_storeM (b := g) (m := M.zero) (m' := { M.zero with kind := 10, ae := y0, cost := y1, interval := y2 }) rfl _ _ rfl rfl rfl XM.out ?_))
      have XM := Lib.hid (XM.out.put (m' := ({ M.zero with kind := 10, ae := y0, cost := y1, interval := y2 } : M)))
      have HD := Lib.hid (HD.out.row hg (M.cells ({ M.zero with kind := 10, ae := y0, cost := y1, interval := y2 } : M)))
      generalize World.setRow V g _ = Y at *
      have c5 : Y.cell? ⟨g, 5, none⟩ = some (.int .i64 y0) := XM.out.cs.c5
      go_wp2_with fail
      refine (PL.out _).mono ?_
      rintro e V7 ⟨rfl, hb⟩
      have XM := Lib.hid (XM.out.below hb)
      have HD := Lib.hid (HD.out.call hb)
      clear hb c5
      go_wp2_with (first | (refine wpList_builtK rfl 43 _ rfl (M.cells M.zero) (by kernel_rfl) ?_) | (refine wpList_storeM (b := w.heap.size + 1) (m := M.zero) (m' := M.zero) rfl _ _ rfl rfl rfl HD.out.res ?_))
      exact bodyPost_ret (v := .tuple #[.agg M.zero.cells, .bool false, .int .i64 2]) (ret3 rfl _ _ (w.heap.size + 1) M.zero rfl (HD.out.res.put (m' := M.zero)) (.bool false) rfl (.int .i64 2) rfl) rfl (AnsB.no HY.out (Box.below_setRow HD.out.bel (by omega) _))
    have h : ¬ s.size < szF 5 s := by rw [hzz]; exact hh
    have hh2 : ¬ (s.size : Int) < 6 + (nz : Int) := by omega
    have sla := sl_m s 6 (6 + (nz : Int)) 6 (6 + nz) rfl (by omega) (by omega) (by omega)
    have slt := sl_l s (6 + (nz : Int)) (6 + nz) s.size (by omega) (by omega) rfl
    obtain ⟨⟨l, kn, er⟩, ho⟩ : ∃ p, outS (s.extract (szF 5 s) s.size) = p := ⟨_, rfl⟩
    have PS := Lib.hid (fun V => S6.rget_own (s.extract (szF 5 s) s.size) V (by simp; omega))
    have hoX := ho
    rw [ho] at PS
    rw [hzz] at PS
    have HX := Lib.hid HX0
    clear HX0 hzz hoX
    by_cases e3 : bt s 0 = 3
    · rw [e3] at HX
      have PG := Lib.hid (fun V => rlong_any (s.extract 6 (6 + nz)) V)
      have HX := Lib.hid (show hdF 5 s = { M.zero with kind := 10, ae := 3, cost := num2 s 2, interval := num2 s 4, addr := lgA (s.extract 6 (6 + nz)) } from HX.out)
      rw [← e3] at HX
      generalize s.extract 6 (6 + nz) = ea at *
      generalize lgA ea = la at *
      generalize s.extract (6 + nz) s.size = er2 at *
      generalize num2 s 2 = y1 at *
      generalize num2 s 4 = y2 at *
      generalize s.extract 2 4 = e1 at *
      generalize s.extract 4 6 = e2 at *
      generalize bt s 0 = y0 at *
      have E3 := Lib.hid e3
      clear e3
      go_enter Tryz.func31, Tryz.ntmps31
      go_upto_region 1 with fail
      change Code.wp _ _ _ _ ((w.alloc (.cells (cellsT (a, (s, 5))) 31)).alloc (.cells M.zero.cells 43))
      have HD := Lib.hid (D.start w a 5 s)
      generalize (w.alloc (.cells (cellsT (a, (s, 5))) 31)).alloc (.cells M.zero.cells 43) = W at *
      have c0 := HD.out.tl.cell 0 (.int .i64 5) rfl
      have c2 := HD.out.tl.cell 2 (.string s) rfl
      go_upto_region 8 with (first | (refine wpList_builtK rfl 43 _ rfl (M.cells M.zero) (by kernel_rfl) ?_) | (change wpList _ _ _ _ _ (W.alloc (.cells M.zero.cells 43)); refine wpList_storeM (b := W.heap.size) (m := M.zero) (m' := M.zero) rfl _ _ rfl rfl rfl (Bx.new W M.zero) ?_))
      rw [World.setRow_alloc_new]
      have XM := Lib.hid (Bx.new W M.zero)
      have hg := HD.out.res.lt
      have HD := Lib.hid (HD.out.call (balloc (Below.refl _ W) (.cells M.zero.cells 43)))
      clear c0 c2
      generalize W.alloc (.cells M.zero.cells 43) = V at *
      generalize W.heap.size = g at *
      have c0 := HD.out.tl.cell 0 (.int .i64 5) rfl
      go_upto_region 9 with fail
      refine wp_region_still_tail 9 (by kernel_rfl) (by kernel_rfl) ?_
      simp only [List.take_succ_cons, List.take_zero, List.drop_succ_cons, List.drop_zero]
      repeat still_step
      still_call (P1.out _)
      repeat still_step
      still_call (P2.out _)
      repeat still_step
      refine wpStill_nil ?_
      change wpList _ _ _ _ _ V.drew
      have XM := Lib.hid (show Bx V.drew g M.zero from XM.out)
      have HD := Lib.hid HD.out.drew
      generalize V.drew = V at *
      clear c0 i0 v0 s1 s2 b0 b1 P1 P2
      go_upto_region 10 with (first | (refine wpList_builtK rfl 43 _ rfl (M.cells { M.zero with kind := 10, ae := y0, cost := y1, interval := y2 }) (by kernel_rfl) ?_) | (refine wpList_storeM (b := g) (m := M.zero) (m' := { M.zero with kind := 10, ae := y0, cost := y1, interval := y2 }) rfl _ _ rfl rfl rfl XM.out ?_))
      have XM := Lib.hid (XM.out.put (m' := ({ M.zero with kind := 10, ae := y0, cost := y1, interval := y2 } : M)))
      have HD := Lib.hid (HD.out.row hg (M.cells ({ M.zero with kind := 10, ae := y0, cost := y1, interval := y2 } : M)))
      generalize World.setRow V g _ = Y at *
      have c5 : Y.cell? ⟨g, 5, none⟩ = some (.int .i64 y0) := XM.out.cs.c5
      go_wp2_with fail
      refine (PL.out _).mono ?_
      rintro e V7 ⟨rfl, hb⟩
      have XM := Lib.hid (XM.out.below hb)
      have HD := Lib.hid (HD.out.call hb)
      clear hb c5
      have c5 : V7.cell? ⟨g, 5, none⟩ = some (.int .i64 y0) := XM.out.cs.c5
      have d := XM.out.cs.c19
      have fd := XM.out.frozen 19
      go_upto_region 16 with fail
      have XM := Lib.hid (XM.out.set (i := 19) (v := .string ea) (m' := { M.zero with kind := 10, ae := y0, cost := y1, interval := y2, addr := ea }) rfl)
      have HD := Lib.hid (HD.out.cell hg 19 (.string ea))
      clear d fd c5
      generalize V7.setCell ⟨g, 19, none⟩ (.string ea) = V8 at *
      have c5 : V8.cell? ⟨g, 5, none⟩ = some (.int .i64 y0) := XM.out.cs.c5
      rw [E3.out] at c5
      have c19 := XM.out.cs.c19
      go_wp2_with fail
      refine (PG.out _).mono ?_
      rintro e V9 ⟨rfl, hb⟩
      have XM := Lib.hid (XM.out.below hb)
      have HD := Lib.hid (HD.out.call hb)
      clear hb c5 c19
      have d := XM.out.cs.c19
      have fd := XM.out.frozen 19
      go_upto_region 24 with fail
      have XM := Lib.hid (XM.out.set (i := 19) (v := .string la) (m' := { M.zero with kind := 10, ae := y0, cost := y1, interval := y2, addr := la }) rfl)
      have HD := Lib.hid (HD.out.cell hg 19 (.string la))
      clear d fd
      generalize V9.setCell ⟨g, 19, none⟩ (.string la) = V10 at *
      obtain ⟨x, hx⟩ : ∃ x : M, x = { M.zero with kind := 10, ae := y0, cost := y1, interval := y2, addr := la } := ⟨_, rfl⟩
      rw [← hx] at XM HX
      clear hx
      go_wp2_with fail
      refine (PS.out _).mono ?_
      rintro e w4 ⟨sa, sc, rfl, hl, hb⟩
      have hgg := XM.out.lt
      have XM := Lib.hid (XM.out.below hb)
      have HD := Lib.hid (HD.out.call hb)
      have HL := Lib.hid hl
      have hsw : w.heap.size ≤ (V10).heap.size := by omega
      clear hb hl PS
      simp only [] at HL
      generalize (V10).heap.size = z at *
      by_cases he : er = 0
      rotate_left
      · have HY := Lib.hid (out_sub h k ho (fun x => he x.1))
        have e1 : (er == 0) = false := by simpa using he
        have e2 : (er != 0) = true := by rw [bne, e1]; rfl
        clear he ho XM
        go_wp2_with (first | (refine wpList_builtK rfl 43 _ rfl (M.cells M.zero) (by kernel_rfl) ?_) | (refine wpList_storeM (b := w.heap.size + 1) (m := M.zero) (m' := M.zero) rfl _ _ rfl rfl rfl HD.out.res ?_))
        exact bodyPost_ret (v := .tuple #[.agg M.zero.cells, .bool false, .int .i64 er]) (ret3 rfl _ _ (w.heap.size + 1) M.zero rfl (HD.out.res.put (m' := M.zero)) (.bool false) rfl (.int .i64 er) rfl) rfl (AnsB.no HY.out (Box.below_setRow HD.out.bel (by omega) _))
      subst he
      cases kn with
      | false =>
        have HY := Lib.hid (out_sub h k ho (fun x => by cases x.2))
        clear ho XM
        go_wp2_with (first | (refine wpList_builtK rfl 43 _ rfl (M.cells M.zero) (by kernel_rfl) ?_) | (refine wpList_storeM (b := w.heap.size + 1) (m := M.zero) (m' := M.zero) rfl _ _ rfl rfl rfl HD.out.res ?_))
        exact bodyPost_ret (v := .tuple #[.agg M.zero.cells, .bool false, .int .i64 0]) (ret3 rfl _ _ (w.heap.size + 1) M.zero rfl (HD.out.res.put (m' := M.zero)) (.bool false) rfl (.int .i64 0) rfl) rfl (AnsB.no HY.out (Box.below_setRow HD.out.bel (by omega) _))
      | true =>
        have HY := Lib.hid (out_yes h k ho)
        rw [HX.out] at HY
        clear ho h k
        have d := XM.out.cs.c24
        have fd := XM.out.frozen 24
        go_upto_region 28 with fail
        have XM := Lib.hid (XM.out.set (i := 24) (v := .slice sa l.length sc) (m' := { x with sa := sa, sl := l, sc := sc }) rfl)
        have HD := Lib.hid (HD.out.cell hg 24 (.slice sa l.length sc))
        have HL := Lib.hid (lst_cell (u := .slice sa l.length sc) (p := ⟨g, 24, none⟩) HL.out hgg)
        clear d fd
        generalize w4.setCell ⟨g, 24, none⟩ (.slice sa l.length sc) = V5 at *
        go_wp2_with (first | (refine wpList_loadM (b := g) (m := { x with sa := sa, sl := l, sc := sc }) rfl _ rfl rfl XM.out ?_) | (refine wpList_storeM (b := w.heap.size + 1) (m := M.zero) (m' := { x with sa := sa, sl := l, sc := sc }) rfl _ _ rfl rfl rfl HD.out.res ?_))
        exact bodyPost_ret (v := .tuple #[.agg (M.cells { x with sa := sa, sl := l, sc := sc }), .bool true, .int .i64 0]) (ret3 rfl _ _ (w.heap.size + 1) { x with sa := sa, sl := l, sc := sc } rfl (HD.out.res.put (m' := { x with sa := sa, sl := l, sc := sc })) (.bool true) rfl (.int .i64 0) rfl) rfl (AnsB.subs HY.out (lst_under HL.out (by omega) _) hsw (Box.below_setRow HD.out.bel (by omega) _))
    have HX := Lib.hid (show hdF 5 s = { M.zero with kind := 10, ae := bt s 0, cost := num2 s 2, interval := num2 s 4, addr := s.extract 6 (6 + nz) } by rw [HX.out]; unfold lgT; rw [if_neg e3])
    generalize s.extract 6 (6 + nz) = ea at *
    generalize s.extract (6 + nz) s.size = er2 at *
    generalize num2 s 2 = y1 at *
    generalize num2 s 4 = y2 at *
    generalize s.extract 2 4 = e1 at *
    generalize s.extract 4 6 = e2 at *
    generalize bt s 0 = y0 at *
    have e4 : (y0 == 3) = false := by simpa using e3
    go_enter Tryz.func31, Tryz.ntmps31
    go_upto_region 1 with fail
    change Code.wp _ _ _ _ ((w.alloc (.cells (cellsT (a, (s, 5))) 31)).alloc (.cells M.zero.cells 43))
    have HD := Lib.hid (D.start w a 5 s)
    generalize (w.alloc (.cells (cellsT (a, (s, 5))) 31)).alloc (.cells M.zero.cells 43) = W at *
    have c0 := HD.out.tl.cell 0 (.int .i64 5) rfl
    have c2 := HD.out.tl.cell 2 (.string s) rfl
    go_upto_region 8 with (first | (refine wpList_builtK rfl 43 _ rfl (M.cells M.zero) (by kernel_rfl) ?_) | (change wpList _ _ _ _ _ (W.alloc (.cells M.zero.cells 43)); refine wpList_storeM (b := W.heap.size) (m := M.zero) (m' := M.zero) rfl _ _ rfl rfl rfl (Bx.new W M.zero) ?_))
    rw [World.setRow_alloc_new]
    have XM := Lib.hid (Bx.new W M.zero)
    have hg := HD.out.res.lt
    have HD := Lib.hid (HD.out.call (balloc (Below.refl _ W) (.cells M.zero.cells 43)))
    clear c0 c2
    generalize W.alloc (.cells M.zero.cells 43) = V at *
    generalize W.heap.size = g at *
    have c0 := HD.out.tl.cell 0 (.int .i64 5) rfl
    go_upto_region 9 with fail
    refine wp_region_still_tail 9 (by kernel_rfl) (by kernel_rfl) ?_
    simp only [List.take_succ_cons, List.take_zero, List.drop_succ_cons, List.drop_zero]
    repeat still_step
    still_call (P1.out _)
    repeat still_step
    still_call (P2.out _)
    repeat still_step
    refine wpStill_nil ?_
    change wpList _ _ _ _ _ V.drew
    have XM := Lib.hid (show Bx V.drew g M.zero from XM.out)
    have HD := Lib.hid HD.out.drew
    generalize V.drew = V at *
    clear c0 i0 v0 s1 s2 b0 b1 P1 P2
    go_upto_region 10 with (first | (refine wpList_builtK rfl 43 _ rfl (M.cells { M.zero with kind := 10, ae := y0, cost := y1, interval := y2 }) (by kernel_rfl) ?_) | (refine wpList_storeM (b := g) (m := M.zero) (m' := { M.zero with kind := 10, ae := y0, cost := y1, interval := y2 }) rfl _ _ rfl rfl rfl XM.out ?_))
    have XM := Lib.hid (XM.out.put (m' := ({ M.zero with kind := 10, ae := y0, cost := y1, interval := y2 } : M)))
    have HD := Lib.hid (HD.out.row hg (M.cells ({ M.zero with kind := 10, ae := y0, cost := y1, interval := y2 } : M)))
    generalize World.setRow V g _ = Y at *
    have c5 : Y.cell? ⟨g, 5, none⟩ = some (.int .i64 y0) := XM.out.cs.c5
    go_wp2_with fail
    refine (PL.out _).mono ?_
    rintro e V7 ⟨rfl, hb⟩
    have XM := Lib.hid (XM.out.below hb)
    have HD := Lib.hid (HD.out.call hb)
    clear hb c5
    have c5 : V7.cell? ⟨g, 5, none⟩ = some (.int .i64 y0) := XM.out.cs.c5
    have d := XM.out.cs.c19
    have fd := XM.out.frozen 19
    go_upto_region 16 with fail
    have XM := Lib.hid (XM.out.set (i := 19) (v := .string ea) (m' := { M.zero with kind := 10, ae := y0, cost := y1, interval := y2, addr := ea }) rfl)
    have HD := Lib.hid (HD.out.cell hg 19 (.string ea))
    clear d fd c5
    generalize V7.setCell ⟨g, 19, none⟩ (.string ea) = V8 at *
    have c5 : V8.cell? ⟨g, 5, none⟩ = some (.int .i64 y0) := XM.out.cs.c5
    go_upto_region 24 with fail
    clear c5
    obtain ⟨x, hx⟩ : ∃ x : M, x = { M.zero with kind := 10, ae := y0, cost := y1, interval := y2, addr := ea } := ⟨_, rfl⟩
    rw [← hx] at XM HX
    clear hx
    go_wp2_with fail
    refine (PS.out _).mono ?_
    rintro e w4 ⟨sa, sc, rfl, hl, hb⟩
    have hgg := XM.out.lt
    have XM := Lib.hid (XM.out.below hb)
    have HD := Lib.hid (HD.out.call hb)
    have HL := Lib.hid hl
    have hsw : w.heap.size ≤ (V8).heap.size := by omega
    clear hb hl PS
    simp only [] at HL
    generalize (V8).heap.size = z at *
    by_cases he : er = 0
    rotate_left
    · have HY := Lib.hid (out_sub h k ho (fun x => he x.1))
      have e1 : (er == 0) = false := by simpa using he
      have e2 : (er != 0) = true := by rw [bne, e1]; rfl
      clear he ho XM
      go_wp2_with (first | (refine wpList_builtK rfl 43 _ rfl (M.cells M.zero) (by kernel_rfl) ?_) | (refine wpList_storeM (b := w.heap.size + 1) (m := M.zero) (m' := M.zero) rfl _ _ rfl rfl rfl HD.out.res ?_))
      exact bodyPost_ret (v := .tuple #[.agg M.zero.cells, .bool false, .int .i64 er]) (ret3 rfl _ _ (w.heap.size + 1) M.zero rfl (HD.out.res.put (m' := M.zero)) (.bool false) rfl (.int .i64 er) rfl) rfl (AnsB.no HY.out (Box.below_setRow HD.out.bel (by omega) _))
    subst he
    cases kn with
    | false =>
      have HY := Lib.hid (out_sub h k ho (fun x => by cases x.2))
      clear ho XM
      go_wp2_with (first | (refine wpList_builtK rfl 43 _ rfl (M.cells M.zero) (by kernel_rfl) ?_) | (refine wpList_storeM (b := w.heap.size + 1) (m := M.zero) (m' := M.zero) rfl _ _ rfl rfl rfl HD.out.res ?_))
      exact bodyPost_ret (v := .tuple #[.agg M.zero.cells, .bool false, .int .i64 0]) (ret3 rfl _ _ (w.heap.size + 1) M.zero rfl (HD.out.res.put (m' := M.zero)) (.bool false) rfl (.int .i64 0) rfl) rfl (AnsB.no HY.out (Box.below_setRow HD.out.bel (by omega) _))
    | true =>
      have HY := Lib.hid (out_yes h k ho)
      rw [HX.out] at HY
      clear ho h k
      have d := XM.out.cs.c24
      have fd := XM.out.frozen 24
      go_upto_region 28 with fail
      have XM := Lib.hid (XM.out.set (i := 24) (v := .slice sa l.length sc) (m' := { x with sa := sa, sl := l, sc := sc }) rfl)
      have HD := Lib.hid (HD.out.cell hg 24 (.slice sa l.length sc))
      have HL := Lib.hid (lst_cell (u := .slice sa l.length sc) (p := ⟨g, 24, none⟩) HL.out hgg)
      clear d fd
      generalize w4.setCell ⟨g, 24, none⟩ (.slice sa l.length sc) = V5 at *
      go_wp2_with (first | (refine wpList_loadM (b := g) (m := { x with sa := sa, sl := l, sc := sc }) rfl _ rfl rfl XM.out ?_) | (refine wpList_storeM (b := w.heap.size + 1) (m := M.zero) (m' := { x with sa := sa, sl := l, sc := sc }) rfl _ _ rfl rfl rfl HD.out.res ?_))
      exact bodyPost_ret (v := .tuple #[.agg (M.cells { x with sa := sa, sl := l, sc := sc }), .bool true, .int .i64 0]) (ret3 rfl _ _ (w.heap.size + 1) { x with sa := sa, sl := l, sc := sc } rfl (HD.out.res.put (m' := { x with sa := sa, sl := l, sc := sc })) (.bool true) rfl (.int .i64 0) rfl) rfl (AnsB.subs HY.out (lst_under HL.out (by omega) _) hsw (Box.below_setRow HD.out.bel (by omega) _))
end Go.Proofs.YtpkmpinbpfblfaaGreatDoor.G8
namespace Go.Proofs.YtpkmpinbpfblfaaGreatDoor.I3
open Go.ChangeShapes Go.WideShapes Go.ChangeAt Go.RowKit
open Go.Proofs.YtpkmpinbpfblfaaGreatDoor.Ms
open Go.Proofs.YtpkmpinbpfblfaaGreatDoor.Box
open Go.Proofs.YtpkmpinbpfblfaaGreatDoor.An
open Go.Proofs.YtpkmpinbpfblfaaGreatDoor.K1
open Go.Proofs.YtpkmpinbpfblfaaGreatDoor.Kb
open Go.Proofs.YtpkmpinbpfblfaaGreatDoor.I1
open Go.Proofs.YtpkmpinbpfblfaaGreatDoor.G1 (outF)
open Go.Proofs.YtpkmpinbpfblfaaGreatDoor.J1 (outJ)
open Go.Proofs.YtpkmpinbpfblfaaGreatDoor.Tl (cellsT)
open Go.Proofs.YtpkmpinbpfblfaaGreatDoor.Hs
open Go.Proofs.YtpkmpinbpfblfaaGreatDoor.Hy (H.one H.two wp_valW)
open Go.Proofs.YtpkmpinbpfblfaaGreatDoor.Bk (Bk wpList_builtK run_loadK loadVarK alloc_size)
open Go.Proofs.YtpkmpinbpfblfaaGreatDoor.K6 (infoX)
set_option linter.unusedVariables false
set_option maxRecDepth 100000
/-- A message's answer stands: the own Subs begin at block B. -/
theorem AnsB.parts {p : M × Bool × Int} {w : World} {e : Ending} {w' : World} (h : AnsB p w e w') : ∃ n : M, e = .returned (.tuple #[.agg n.cells, .bool p.2.1, .int .i64 p.2.2]) ∧ Pl n p.1 ∧ Sx.Lst w.heap.size w' (.slice n.sa n.sl.length n.sc) n.sl ∧ Below w.heap.size w w' := by
  obtain ⟨sa, sc, h1, h3, h4⟩ := h
  exact ⟨_, h1, rfl, h3, h4⟩
/-- What the boxes hold: what is known, the TLV, the result's. -/
structure St (w : World) (c : Kx) (x : F1.T) (W : World) : Prop where
  s0 : Bk 35 W w.heap.size c.cells
  t0 : Bk 31 W (w.heap.size + 1) (cellsT x)
  r0 : Bk 35 W (w.heap.size + 1 + 1) Kx.zero.cells
  bel : Below w.heap.size w W
theorem St.call {w V W : World} {c : Kx} {x : F1.T} (h : St w c x V) (hb : Below V.heap.size V W) : St w c x W := ⟨h.s0.below hb, h.t0.below hb, h.r0.below hb, bcall h.bel hb⟩
theorem St.row {w V : World} {c : Kx} {x : F1.T} (h : St w c x V) {g : Nat} (hg : w.heap.size + 1 + 1 < g) (cs : Array Value) : St w c x (V.setRow g cs) := ⟨h.s0.row (by omega) _, h.t0.row (by omega) _, h.r0.row (by omega) _, Box.below_setRow h.bel (by omega) _⟩
theorem St.start (w : World) (c : Kx) (x : F1.T) : St w c x (((w.alloc (.cells c.cells 35)).alloc (.cells (cellsT x) 31)).alloc (.cells Kx.zero.cells 35)) := by
  refine ⟨((Bk.Bk.new 35 w c.cells).old _).old _, ?_, ?_, balloc (balloc (balloc (Below.refl _ w) _) _) _⟩
  · have := Bk.Bk.new 31 (w.alloc (.cells c.cells 35)) (cellsT x)
    rw [alloc_size] at this
    exact this.old _
  · have := Bk.Bk.new 35 ((w.alloc (.cells c.cells 35)).alloc (.cells (cellsT x) 31)) Kx.zero.cells
    rw [alloc_size, alloc_size] at this
    exact this
/-- An answer that the caller stores into its own result, and hands on. -/
theorem AnsC.on {p : Kx × List M × Int} {w W w1 : World} {a : Option Addr} {k : Nat} {l : List M} {g : Nat} (hp : PlL l p.2.1) (hm : MOwn W.heap.size w1 a l) (hb : Below w.heap.size w w1) (hg : w.heap.size ≤ g) (hz : g < W.heap.size) : AnsC p w (.returned (.tuple #[.agg p.1.cells, .slice a l.length k, .int .i64 p.2.2])) (w1.setRow g p.1.cells) :=
  ⟨a, k, l, rfl, hp, (hm.under hz _).mono (by omega), Box.below_setRow hb hg _⟩
set_option maxHeartbeats 6400000 in
set_option maxRecDepth 100000 in
theorem rone_known (c : Kx) (a t : Int) (d : ByteArray) (w : World) (hc : okC c = true) (hs : d.size ≤ 100000) (h : t = 6 ∨ t = 7 ∨ t = 8) : Calls Tryz.prog 18 #[.agg c.cells, .agg (cellsT (a, (d, t)))] w (AnsC (one c t d) w) := by
  have P1 := Lib.hid (fun V => K8.rstep_any c a t d V h hc hs)
  have HY := Lib.hid (one_c (t := t) (by omega) (by omega) c d)
  generalize outC c t d = q at *
  rw [HY.out]
  clear HY hc hs
  rcases h with rfl | rfl | rfl
  · go_enter Tryz.func18, Tryz.ntmps18
    go_upto_region 1 with fail
    change Code.wp _ _ _ _ (((w.alloc (.cells c.cells 35)).alloc (.cells (cellsT (a, (d, 6))) 31)).alloc (.cells Kx.zero.cells 35))
    have D := Lib.hid (St.start w c (a, (d, 6)))
    generalize ((w.alloc (.cells c.cells 35)).alloc (.cells (cellsT (a, (d, 6))) 31)).alloc (.cells Kx.zero.cells 35) = W0 at *
    go_upto_region 2 with fail
    change Code.wp _ _ _ _ (W0.alloc (.cells M.zero.cells 43))
    have X0 := Lib.hid (Bx.new W0 M.zero)
    have hlt := D.out.r0.lt
    have bel := balloc (Below.refl _ W0) (.cells M.zero.cells 43)
    have D := Lib.hid (D.out.call bel)
    clear bel
    have hzV : W0.heap.size < (W0.alloc (.cells M.zero.cells 43)).heap.size := X0.out.lt
    generalize W0.alloc (.cells M.zero.cells 43) = V at *
    generalize W0.heap.size = g at *
    have ct := D.out.t0.cell 0 (.int .i64 6) rfl
    go_wp2_with (first | (refine wpList_loadX (b := w.heap.size) (m := c) rfl _ rfl rfl D.out.s0 ?_) | (refine Bk.wpList_loadK (b := w.heap.size + 1) Tl.shT rfl _ rfl rfl D.out.t0 rfl ?_))
    refine (P1.out _).mono ?_
    rintro e w1 ⟨qa, qk, l, rfl, hp, hm, hb⟩
    have D := Lib.hid (D.out.call hb)
    clear hb P1 ct
    go_wp2_with (first | (refine wpList_storeX (b := w.heap.size + 1 + 1) (m := Kx.zero) (m' := q.1) rfl _ _ rfl rfl rfl D.out.r0 ?_))
    exact bodyPost_ret (v := .tuple #[.agg (Kx.cells q.1), .slice qa l.length qk, .int .i64 q.2.2]) (results_three rfl _ _ (w.heap.size + 1 + 1) _ rfl (loadVarK shX (D.out.r0.put (Kx.cells q.1)) rfl) (.slice qa l.length qk) rfl (.int .i64 q.2.2) rfl) rfl (AnsC.on hp hm D.out.bel (by omega) (by omega))
  · go_enter Tryz.func18, Tryz.ntmps18
    go_upto_region 1 with fail
    change Code.wp _ _ _ _ (((w.alloc (.cells c.cells 35)).alloc (.cells (cellsT (a, (d, 7))) 31)).alloc (.cells Kx.zero.cells 35))
    have D := Lib.hid (St.start w c (a, (d, 7)))
    generalize ((w.alloc (.cells c.cells 35)).alloc (.cells (cellsT (a, (d, 7))) 31)).alloc (.cells Kx.zero.cells 35) = W0 at *
    go_upto_region 2 with fail
    change Code.wp _ _ _ _ (W0.alloc (.cells M.zero.cells 43))
    have X0 := Lib.hid (Bx.new W0 M.zero)
    have hlt := D.out.r0.lt
    have bel := balloc (Below.refl _ W0) (.cells M.zero.cells 43)
    have D := Lib.hid (D.out.call bel)
    clear bel
    have hzV : W0.heap.size < (W0.alloc (.cells M.zero.cells 43)).heap.size := X0.out.lt
    generalize W0.alloc (.cells M.zero.cells 43) = V at *
    generalize W0.heap.size = g at *
    have ct := D.out.t0.cell 0 (.int .i64 7) rfl
    go_wp2_with (first | (refine wpList_loadX (b := w.heap.size) (m := c) rfl _ rfl rfl D.out.s0 ?_) | (refine Bk.wpList_loadK (b := w.heap.size + 1) Tl.shT rfl _ rfl rfl D.out.t0 rfl ?_))
    refine (P1.out _).mono ?_
    rintro e w1 ⟨qa, qk, l, rfl, hp, hm, hb⟩
    have D := Lib.hid (D.out.call hb)
    clear hb P1 ct
    go_wp2_with (first | (refine wpList_storeX (b := w.heap.size + 1 + 1) (m := Kx.zero) (m' := q.1) rfl _ _ rfl rfl rfl D.out.r0 ?_))
    exact bodyPost_ret (v := .tuple #[.agg (Kx.cells q.1), .slice qa l.length qk, .int .i64 q.2.2]) (results_three rfl _ _ (w.heap.size + 1 + 1) _ rfl (loadVarK shX (D.out.r0.put (Kx.cells q.1)) rfl) (.slice qa l.length qk) rfl (.int .i64 q.2.2) rfl) rfl (AnsC.on hp hm D.out.bel (by omega) (by omega))
  · go_enter Tryz.func18, Tryz.ntmps18
    go_upto_region 1 with fail
    change Code.wp _ _ _ _ (((w.alloc (.cells c.cells 35)).alloc (.cells (cellsT (a, (d, 8))) 31)).alloc (.cells Kx.zero.cells 35))
    have D := Lib.hid (St.start w c (a, (d, 8)))
    generalize ((w.alloc (.cells c.cells 35)).alloc (.cells (cellsT (a, (d, 8))) 31)).alloc (.cells Kx.zero.cells 35) = W0 at *
    go_upto_region 2 with fail
    change Code.wp _ _ _ _ (W0.alloc (.cells M.zero.cells 43))
    have X0 := Lib.hid (Bx.new W0 M.zero)
    have hlt := D.out.r0.lt
    have bel := balloc (Below.refl _ W0) (.cells M.zero.cells 43)
    have D := Lib.hid (D.out.call bel)
    clear bel
    have hzV : W0.heap.size < (W0.alloc (.cells M.zero.cells 43)).heap.size := X0.out.lt
    generalize W0.alloc (.cells M.zero.cells 43) = V at *
    generalize W0.heap.size = g at *
    have ct := D.out.t0.cell 0 (.int .i64 8) rfl
    go_wp2_with (first | (refine wpList_loadX (b := w.heap.size) (m := c) rfl _ rfl rfl D.out.s0 ?_) | (refine Bk.wpList_loadK (b := w.heap.size + 1) Tl.shT rfl _ rfl rfl D.out.t0 rfl ?_))
    refine (P1.out _).mono ?_
    rintro e w1 ⟨qa, qk, l, rfl, hp, hm, hb⟩
    have D := Lib.hid (D.out.call hb)
    clear hb P1 ct
    go_wp2_with (first | (refine wpList_storeX (b := w.heap.size + 1 + 1) (m := Kx.zero) (m' := q.1) rfl _ _ rfl rfl rfl D.out.r0 ?_))
    exact bodyPost_ret (v := .tuple #[.agg (Kx.cells q.1), .slice qa l.length qk, .int .i64 q.2.2]) (results_three rfl _ _ (w.heap.size + 1 + 1) _ rfl (loadVarK shX (D.out.r0.put (Kx.cells q.1)) rfl) (.slice qa l.length qk) rfl (.int .i64 q.2.2) rfl) rfl (AnsC.on hp hm D.out.bel (by omega) (by omega))
set_option maxHeartbeats 6400000 in
set_option maxRecDepth 100000 in
theorem rone_pad (c : Kx) (a t : Int) (d : ByteArray) (w : World) (h : t = 0 ∨ t = 1) : Calls Tryz.prog 18 #[.agg c.cells, .agg (cellsT (a, (d, t)))] w (AnsC (one c t d) w) := by
  have HY := Lib.hid (one_pad h c d)
  rcases h with rfl | rfl
  · go_enter Tryz.func18, Tryz.ntmps18
    go_upto_region 1 with fail
    change Code.wp _ _ _ _ (((w.alloc (.cells c.cells 35)).alloc (.cells (cellsT (a, (d, 0))) 31)).alloc (.cells Kx.zero.cells 35))
    have D := Lib.hid (St.start w c (a, (d, 0)))
    generalize ((w.alloc (.cells c.cells 35)).alloc (.cells (cellsT (a, (d, 0))) 31)).alloc (.cells Kx.zero.cells 35) = W0 at *
    go_upto_region 2 with fail
    change Code.wp _ _ _ _ (W0.alloc (.cells M.zero.cells 43))
    have X0 := Lib.hid (Bx.new W0 M.zero)
    have hlt := D.out.r0.lt
    have bel := balloc (Below.refl _ W0) (.cells M.zero.cells 43)
    have D := Lib.hid (D.out.call bel)
    clear bel
    have hzV : W0.heap.size < (W0.alloc (.cells M.zero.cells 43)).heap.size := X0.out.lt
    generalize W0.alloc (.cells M.zero.cells 43) = V at *
    generalize W0.heap.size = g at *
    have ct := D.out.t0.cell 0 (.int .i64 0) rfl
    go_wp2_with (first | (refine wpList_loadX (b := w.heap.size) (m := c) rfl _ rfl rfl D.out.s0 ?_) | (refine wpList_storeX (b := w.heap.size + 1 + 1) (m := Kx.zero) (m' := c) rfl _ _ rfl rfl rfl D.out.r0 ?_))
    exact bodyPost_ret (v := .tuple #[.agg (Kx.cells c), .slice none 0 0, .int .i64 0]) (results_three rfl _ _ (w.heap.size + 1 + 1) _ rfl (loadVarK shX (D.out.r0.put (Kx.cells c)) rfl) (.slice none 0 0) rfl (.int .i64 0) rfl) rfl (AnsC.no HY.out (Box.below_setRow D.out.bel (by omega) _))
  · go_enter Tryz.func18, Tryz.ntmps18
    go_upto_region 1 with fail
    change Code.wp _ _ _ _ (((w.alloc (.cells c.cells 35)).alloc (.cells (cellsT (a, (d, 1))) 31)).alloc (.cells Kx.zero.cells 35))
    have D := Lib.hid (St.start w c (a, (d, 1)))
    generalize ((w.alloc (.cells c.cells 35)).alloc (.cells (cellsT (a, (d, 1))) 31)).alloc (.cells Kx.zero.cells 35) = W0 at *
    go_upto_region 2 with fail
    change Code.wp _ _ _ _ (W0.alloc (.cells M.zero.cells 43))
    have X0 := Lib.hid (Bx.new W0 M.zero)
    have hlt := D.out.r0.lt
    have bel := balloc (Below.refl _ W0) (.cells M.zero.cells 43)
    have D := Lib.hid (D.out.call bel)
    clear bel
    have hzV : W0.heap.size < (W0.alloc (.cells M.zero.cells 43)).heap.size := X0.out.lt
    generalize W0.alloc (.cells M.zero.cells 43) = V at *
    generalize W0.heap.size = g at *
    have ct := D.out.t0.cell 0 (.int .i64 1) rfl
    go_wp2_with (first | (refine wpList_loadX (b := w.heap.size) (m := c) rfl _ rfl rfl D.out.s0 ?_) | (refine wpList_storeX (b := w.heap.size + 1 + 1) (m := Kx.zero) (m' := c) rfl _ _ rfl rfl rfl D.out.r0 ?_))
    exact bodyPost_ret (v := .tuple #[.agg (Kx.cells c), .slice none 0 0, .int .i64 0]) (results_three rfl _ _ (w.heap.size + 1 + 1) _ rfl (loadVarK shX (D.out.r0.put (Kx.cells c)) rfl) (.slice none 0 0) rfl (.int .i64 0) rfl) rfl (AnsC.no HY.out (Box.below_setRow D.out.bel (by omega) _))
/-- The ways that tell a message: which one, and by which call. -/
theorem one_way (c : Kx) {t : Int} (d : ByteArray) (h : ¬ (t = 0 ∨ t = 1)) (h' : ¬ (t = 6 ∨ t = 7 ∨ t = 8)) : ∃ p : M × Bool × Int, one c t d = tell c p ∧ p.1.ll = [] ∧
    ((2 ≤ t ∧ t ≤ 5 ∧ p = outF t d) ∨ ((t = 9 ∨ t = 10) ∧ p = outJ t d) ∨ ((t < 0 ∨ 10 < t) ∧ p = (opM t d, true, 0))) := by
  by_cases h1 : 2 ≤ t ∧ t ≤ 5
  · exact ⟨_, one_f h1.1 h1.2 c d, (G1.out_len t d h1.1 h1.2).2.1, .inl ⟨h1.1, h1.2, rfl⟩⟩
  by_cases h2 : t = 9 ∨ t = 10
  · exact ⟨_, one_j h2 c d, (J1.out_len t d h2).2.1, .inr (.inl ⟨h2, rfl⟩)⟩
  have h3 : t < 0 ∨ 10 < t := by omega
  exact ⟨(opM t d, true, 0), one_o h3 c d, rfl, .inr (.inr ⟨h3, rfl⟩)⟩
set_option maxHeartbeats 25600000 in
set_option maxRecDepth 100000 in
theorem rone_told (c : Kx) (a t : Int) (d : ByteArray) (w : World) (hs : d.size ≤ 100000) (h0 : ¬ (t = 0 ∨ t = 1)) (h6 : ¬ (t = 6 ∨ t = 7 ∨ t = 8)) : Calls Tryz.prog 18 #[.agg c.cells, .agg (cellsT (a, (d, t)))] w (AnsC (one c t d) w) := by
  obtain ⟨p, hp1, hll, hp2⟩ := one_way c d h0 h6
  have HY := Lib.hid hp1
  have HLL := Lib.hid hll
  clear hp1 hll
  go_enter Tryz.func18, Tryz.ntmps18
  go_upto_region 1 with fail
  change Code.wp _ _ _ _ (((w.alloc (.cells c.cells 35)).alloc (.cells (cellsT (a, (d, t))) 31)).alloc (.cells Kx.zero.cells 35))
  have D := Lib.hid (St.start w c (a, (d, t)))
  generalize ((w.alloc (.cells c.cells 35)).alloc (.cells (cellsT (a, (d, t))) 31)).alloc (.cells Kx.zero.cells 35) = W0 at *
  go_upto_region 2 with fail
  change Code.wp _ _ _ _ (W0.alloc (.cells M.zero.cells 43))
  have X0 := Lib.hid (Bx.new W0 M.zero)
  have hlt := D.out.r0.lt
  have bel := balloc (Below.refl _ W0) (.cells M.zero.cells 43)
  have D := Lib.hid (D.out.call bel)
  clear bel
  have hzV : W0.heap.size < (W0.alloc (.cells M.zero.cells 43)).heap.size := X0.out.lt
  generalize W0.alloc (.cells M.zero.cells 43) = V at *
  generalize W0.heap.size = g at *
  go_upto_region 3 with fail
  go_cut [9] (fun m wx => m = .int .i64 0 ∧ wx = V)
  case first =>
    go_wp2_with fail
    go_meet
    exact ⟨rfl, rfl⟩
  case' rest =>
    obtain ⟨rfl, rfl⟩ := hcut
    go_step
    go_step
  go_cut [8, 9] (fun m8 m9 wx => ∃ n : M, m8 = .bool p.2.1 ∧ m9 = .int .i64 p.2.2 ∧ Pl n p.1 ∧ St w c (a, (d, t)) wx ∧ Bx wx g n ∧ Sx.Lst (g + 1) wx (.slice n.sa n.sl.length n.sc) n.sl)
  case first =>
    have ct := D.out.t0.cell 0 (.int .i64 t) rfl
    rcases hp2 with ⟨h2, h5, hp⟩ | ⟨h9, hp⟩ | ⟨h11, hp⟩
    · have P1 := Lib.hid (fun V => G8.rget_own t a d V h2 h5 hs)
      rw [← hp] at P1
      have h4 : t = 2 ∨ t = 3 ∨ t = 4 ∨ t = 5 := by omega
      clear hp h2 h5 h0 h6
      rcases h4 with rfl | rfl | rfl | rfl
      · go_wp2_with (first | (refine Bk.wpList_loadK (b := w.heap.size + 1) Tl.shT rfl _ rfl rfl D.out.t0 rfl ?_))
        refine (P1.out _).mono ?_
        intro e w1 ha
        obtain ⟨n, rfl, hn, hl, hb⟩ := AnsB.parts ha
        have D := Lib.hid (D.out.call hb)
        have X0 := Lib.hid (X0.out.below hb)
        clear hb ha ct
        go_wp2_with (first | (refine wpList_storeM (b := g) (m := M.zero) (m' := n) rfl _ _ rfl rfl rfl X0.out ?_))
        go_meet
        exact ⟨n, rfl, rfl, hn, D.out.row hlt _, X0.out.put, lst_under (lst_mono hl hzV) (by omega) _⟩
      · go_wp2_with (first | (refine Bk.wpList_loadK (b := w.heap.size + 1) Tl.shT rfl _ rfl rfl D.out.t0 rfl ?_))
        refine (P1.out _).mono ?_
        intro e w1 ha
        obtain ⟨n, rfl, hn, hl, hb⟩ := AnsB.parts ha
        have D := Lib.hid (D.out.call hb)
        have X0 := Lib.hid (X0.out.below hb)
        clear hb ha ct
        go_wp2_with (first | (refine wpList_storeM (b := g) (m := M.zero) (m' := n) rfl _ _ rfl rfl rfl X0.out ?_))
        go_meet
        exact ⟨n, rfl, rfl, hn, D.out.row hlt _, X0.out.put, lst_under (lst_mono hl hzV) (by omega) _⟩
      · go_wp2_with (first | (refine Bk.wpList_loadK (b := w.heap.size + 1) Tl.shT rfl _ rfl rfl D.out.t0 rfl ?_))
        refine (P1.out _).mono ?_
        intro e w1 ha
        obtain ⟨n, rfl, hn, hl, hb⟩ := AnsB.parts ha
        have D := Lib.hid (D.out.call hb)
        have X0 := Lib.hid (X0.out.below hb)
        clear hb ha ct
        go_wp2_with (first | (refine wpList_storeM (b := g) (m := M.zero) (m' := n) rfl _ _ rfl rfl rfl X0.out ?_))
        go_meet
        exact ⟨n, rfl, rfl, hn, D.out.row hlt _, X0.out.put, lst_under (lst_mono hl hzV) (by omega) _⟩
      · go_wp2_with (first | (refine Bk.wpList_loadK (b := w.heap.size + 1) Tl.shT rfl _ rfl rfl D.out.t0 rfl ?_))
        refine (P1.out _).mono ?_
        intro e w1 ha
        obtain ⟨n, rfl, hn, hl, hb⟩ := AnsB.parts ha
        have D := Lib.hid (D.out.call hb)
        have X0 := Lib.hid (X0.out.below hb)
        clear hb ha ct
        go_wp2_with (first | (refine wpList_storeM (b := g) (m := M.zero) (m' := n) rfl _ _ rfl rfl rfl X0.out ?_))
        go_meet
        exact ⟨n, rfl, rfl, hn, D.out.row hlt _, X0.out.put, lst_under (lst_mono hl hzV) (by omega) _⟩
    · have P1 := Lib.hid (fun V => J8.rget_own t a d V h9 hs)
      rw [← hp] at P1
      clear hp h0 h6
      rcases h9 with rfl | rfl
      · go_wp2_with (first | (refine Bk.wpList_loadK (b := w.heap.size + 1) Tl.shT rfl _ rfl rfl D.out.t0 rfl ?_))
        refine (P1.out _).mono ?_
        intro e w1 ha
        obtain ⟨n, rfl, hn, hl, hb⟩ := AnsB.parts ha
        have D := Lib.hid (D.out.call hb)
        have X0 := Lib.hid (X0.out.below hb)
        clear hb ha ct
        go_wp2_with (first | (refine wpList_storeM (b := g) (m := M.zero) (m' := n) rfl _ _ rfl rfl rfl X0.out ?_))
        go_meet
        exact ⟨n, rfl, rfl, hn, D.out.row hlt _, X0.out.put, lst_under (lst_mono hl hzV) (by omega) _⟩
      · go_wp2_with (first | (refine Bk.wpList_loadK (b := w.heap.size + 1) Tl.shT rfl _ rfl rfl D.out.t0 rfl ?_))
        refine (P1.out _).mono ?_
        intro e w1 ha
        obtain ⟨n, rfl, hn, hl, hb⟩ := AnsB.parts ha
        have D := Lib.hid (D.out.call hb)
        have X0 := Lib.hid (X0.out.below hb)
        clear hb ha ct
        go_wp2_with (first | (refine wpList_storeM (b := g) (m := M.zero) (m' := n) rfl _ _ rfl rfl rfl X0.out ?_))
        go_meet
        exact ⟨n, rfl, rfl, hn, D.out.row hlt _, X0.out.put, lst_under (lst_mono hl hzV) (by omega) _⟩
    · have n0 : (t == 0) = false := by simp; omega
      have n1 : (t == 1) = false := by simp; omega
      have n6 : (t == 6) = false := by simp; omega
      have n7 : (t == 7) = false := by simp; omega
      have n8 : (t == 8) = false := by simp; omega
      have n2 : (t == 2) = false := by simp; omega
      have n3 : (t == 3) = false := by simp; omega
      have n4 : (t == 4) = false := by simp; omega
      have n5 : (t == 5) = false := by simp; omega
      have n9 : (t == 9) = false := by simp; omega
      have nA : (t == 10) = false := by simp; omega
      have cd := D.out.t0.cell 2 (.string d) rfl
      subst hp
      clear h11 h0 h6
      go_wp2_with (first | (refine wpList_builtK rfl 43 _ rfl (M.cells (opM t d)) (by kernel_rfl) ?_) | (refine wpList_storeM (b := g) (m := M.zero) (m' := opM t d) rfl _ _ rfl rfl rfl X0.out ?_))
      go_meet
      exact ⟨opM t d, rfl, rfl, rfl, D.out.row hlt _, X0.out.put, Sx.Lst.nil _ _⟩
  case rest =>
    obtain ⟨n, rfl, rfl, hn, hD, hX, hL⟩ := hcut
    have D := Lib.hid hD
    have X0 := Lib.hid hX
    have HL := Lib.hid hL
    have HN := Lib.hid hn
    have hnl := (show n.ll = [] by rw [show n = _ from hn]; exact HLL.out)
    have hlc := hX.lt
    clear hD hX hL hn hp2 h0 h6
    obtain ⟨m, k, e⟩ := p
    by_cases he : e = 0
    rotate_left
    · have HY := Lib.hid (show one c t d = (c, [], e) by rw [HY.out]; unfold tell; rw [if_neg (fun h => he h.1)])
      have e1 : (e == 0) = false := by simpa using he
      have e2 : (e != 0) = true := by rw [bne, e1]; rfl
      clear he
      go_wp2_with (first | (refine wpList_loadX (b := w.heap.size) (m := c) rfl _ rfl rfl D.out.s0 ?_) | (refine wpList_storeX (b := w.heap.size + 1 + 1) (m := Kx.zero) (m' := c) rfl _ _ rfl rfl rfl D.out.r0 ?_))
      exact bodyPost_ret (v := .tuple #[.agg (Kx.cells c), .slice none 0 0, .int .i64 e]) (results_three rfl _ _ (w.heap.size + 1 + 1) _ rfl (loadVarK shX (D.out.r0.put (Kx.cells c)) rfl) (.slice none 0 0) rfl (.int .i64 e) rfl) rfl (AnsC.no HY.out (Box.below_setRow D.out.bel (by omega) _))
    subst he
    cases k with
    | false =>
      have HY := Lib.hid (show one c t d = (c, [], 0) by rw [HY.out]; unfold tell; rw [if_neg (fun h => by cases h.2)])
      go_wp2_with (first | (refine wpList_loadX (b := w.heap.size) (m := c) rfl _ rfl rfl D.out.s0 ?_) | (refine wpList_storeX (b := w.heap.size + 1 + 1) (m := Kx.zero) (m' := c) rfl _ _ rfl rfl rfl D.out.r0 ?_))
      exact bodyPost_ret (v := .tuple #[.agg (Kx.cells c), .slice none 0 0, .int .i64 0]) (results_three rfl _ _ (w.heap.size + 1 + 1) _ rfl (loadVarK shX (D.out.r0.put (Kx.cells c)) rfl) (.slice none 0 0) rfl (.int .i64 0) rfl) rfl (AnsC.no HY.out (Box.below_setRow D.out.bel (by omega) _))
    | true =>
      have HY := Lib.hid (show one c t d = (c, [m], 0) by rw [HY.out]; unfold tell; rw [if_pos ⟨rfl, rfl⟩])
      go_upto_region 23 with fail
      generalize wc = V6 at *
      refine wp_region_held_drew (S := fun X => Bk 35 X w.heap.size c.cells ∧ Bx X g n) (by kernel_rfl) ⟨D.out.s0, X0.out⟩ (fun hS => ?_)
      have R0 := Lib.hid (show Bk 35 V6.drew (w.heap.size + 1 + 1) Kx.zero.cells from D.out.r0)
      have HB := Lib.hid D.out.bel.drew
      have HL := Lib.hid (HL.out.below (Below.refl _ V6).drew)
      have hB6 : g + 1 ≤ V6.drew.heap.size := by show g + 1 ≤ V6.heap.size; omega
      have hwB : w.heap.size ≤ g + 1 := by omega
      clear D X0
      generalize V6.drew = Z0 at *
      refine H.tk (i := 0) (v := .agg c.cells) ?h0x1 hS ?_
      case h0x1 => exact (fun w hw => run_loadK shX (x := .tmp 2) rfl rfl hw.1 rfl)
      try simp only [Act.put, List.setIfInBounds_toArray, List.set_cons_zero, List.set_cons_succ]
      refine H.tk (i := 1) (v := .agg n.cells) ?h1x2 hS ?_
      case h1x2 => exact (fun w hw => run_loadM (x := .tmp 7) rfl rfl hw.2)
      try simp only [Act.put, List.setIfInBounds_toArray, List.set_cons_zero, List.set_cons_succ]
      refine H.two (i := 2) (j := 3) (by simp only [List.getElem?_toArray, List.getElem?_cons_succ, List.getElem?_cons_zero]; rfl) (by kernel_rfl) (by simp only [List.getElem?_toArray, List.getElem?_cons_succ, List.getElem?_cons_zero]; rfl) (by kernel_rfl) (by kernel_rfl) (fun K hK => ?wa3) (fun K hK => ?wb3)
      case wa3 =>
        refine wp_valW rfl (Ap.ex_bs (m := n) rfl rfl) ?_
        refine hK.out _ _ ⟨hS.1.old _, hS.2.old _⟩ ?_
        clear hK K
        have hS := (show Bk 35 (Z0.alloc (.cells n.cells 43)) w.heap.size c.cells ∧ Bx (Z0.alloc (.cells n.cells 43)) g n from ⟨hS.1.old _, hS.2.old _⟩)
        try simp only [Act.put, List.setIfInBounds_toArray, List.set_cons_zero, List.set_cons_succ]
        refine H.one (i := 3) (by simp only [List.getElem?_toArray, List.getElem?_cons_succ, List.getElem?_cons_zero]; rfl) (by kernel_rfl) (by kernel_rfl) (fun K hK => ?_)
        refine wp_store_row 35 _ _ rfl (w.heap.size + 1 + 1) c.cells rfl rfl 35 Kx.zero.cells (R0.out.old _) infoX rfl (oneX c) ?_
        refine hK.out _ _ ⟨hS.1.row (by omega) _, Bx.row hS.2 (by omega) _⟩ ?_
        clear hK K
        have hS := (show Bk 35 ((Z0.alloc (.cells n.cells 43)).setRow (w.heap.size + 1 + 1) c.cells) w.heap.size c.cells ∧ Bx ((Z0.alloc (.cells n.cells 43)).setRow (w.heap.size + 1 + 1) c.cells) g n from ⟨hS.1.row (by omega) _, Bx.row hS.2 (by omega) _⟩)
        refine H.tk (i := 4) (v := ?v4x4) ?h4x4 hS ?_
        case h4x4 => (intro w hw; go_simp; first | done | (with_reducible rfl))
        try simp only [Act.put, List.setIfInBounds_toArray, List.set_cons_zero, List.set_cons_succ]
        refine H.tk (i := 5) (v := (Value.int IntKind.i64 0)) (fun w _ => rfl) hS ?_
        try simp only [Act.put, List.setIfInBounds_toArray, List.set_cons_zero, List.set_cons_succ]
        refine wpAnyH_done (by kernel_rfl) ?_ _
        go_wp2_with fail
        exact bodyPost_ret (v := .tuple #[.agg c.cells, .slice (some ⟨Z0.heap.size, 0, none⟩) 1 1, .int .i64 0]) (results_three rfl _ _ (w.heap.size + 1 + 1) _ rfl (loadVarK shX ((R0.out.old (.cells n.cells 43)).put c.cells) rfl) (.slice (some ⟨Z0.heap.size, 0, none⟩) 1 1) rfl (.int .i64 0) rfl) rfl (AnsC.one HY.out HN.out (((one_new (n := n) hnl HL.out hB6).under (by omega) _).mono hwB) (Box.below_setRow (HB.out.alloc HB.out.size _) (by omega) _))
      case wb3 =>
        refine wp_store_row 35 _ _ rfl (w.heap.size + 1 + 1) c.cells rfl rfl 35 Kx.zero.cells R0.out infoX rfl (oneX c) ?_
        refine hK.out _ _ ⟨hS.1.row (by omega) _, Bx.row hS.2 (by omega) _⟩ ?_
        clear hK K
        have hS := (show Bk 35 (Z0.setRow (w.heap.size + 1 + 1) c.cells) w.heap.size c.cells ∧ Bx (Z0.setRow (w.heap.size + 1 + 1) c.cells) g n from ⟨hS.1.row (by omega) _, Bx.row hS.2 (by omega) _⟩)
        refine H.one (i := 2) (by simp only [List.getElem?_toArray, List.getElem?_cons_succ, List.getElem?_cons_zero]; rfl) (by kernel_rfl) (by kernel_rfl) (fun K hK => ?_)
        refine wp_valW rfl (Ap.ex_bs (m := n) rfl rfl) ?_
        refine hK.out _ _ ⟨hS.1.old _, hS.2.old _⟩ ?_
        clear hK K
        have hS := (show Bk 35 ((Z0.setRow (w.heap.size + 1 + 1) c.cells).alloc (.cells n.cells 43)) w.heap.size c.cells ∧ Bx ((Z0.setRow (w.heap.size + 1 + 1) c.cells).alloc (.cells n.cells 43)) g n from ⟨hS.1.old _, hS.2.old _⟩)
        try simp only [Act.put, List.setIfInBounds_toArray, List.set_cons_zero, List.set_cons_succ]
        refine H.tk (i := 4) (v := ?v4x6) ?h4x6 hS ?_
        case h4x6 => (intro w hw; go_simp; first | done | (with_reducible rfl))
        try simp only [Act.put, List.setIfInBounds_toArray, List.set_cons_zero, List.set_cons_succ]
        refine H.tk (i := 5) (v := (Value.int IntKind.i64 0)) (fun w _ => rfl) hS ?_
        try simp only [Act.put, List.setIfInBounds_toArray, List.set_cons_zero, List.set_cons_succ]
        refine wpAnyH_done (by kernel_rfl) ?_ _
        go_wp2_with fail
        exact bodyPost_ret (v := .tuple #[.agg c.cells, .slice (some ⟨Z0.heap.size, 0, none⟩) 1 1, .int .i64 0]) (results_three rfl _ _ (w.heap.size + 1 + 1) _ rfl (loadVarK shX ((R0.out.put c.cells).old (.cells n.cells 43)) rfl) (.slice (some ⟨Z0.heap.size, 0, none⟩) 1 1) rfl (.int .i64 0) rfl) rfl (AnsC.one HY.out HN.out ((by have hq := one_new (n := n) hnl (lst_under HL.out (g := w.heap.size + 1 + 1) (by omega) c.cells) (by simpa using hB6); rw [show (Z0.setRow (w.heap.size + 1 + 1) c.cells).heap.size = Z0.heap.size by simp] at hq; exact hq.mono hwB)) ((Box.below_setRow HB.out (by omega) _).alloc (by simpa using HB.out.size) _))
theorem rone_any (c : Kx) (a t : Int) (d : ByteArray) (w : World) (hc : okC c = true) (hs : d.size ≤ 100000) : Calls Tryz.prog 18 #[.agg c.cells, .agg (cellsT (a, (d, t)))] w (AnsC (one c t d) w) := by
  by_cases h0 : t = 0 ∨ t = 1
  · exact rone_pad c a t d w h0
  by_cases h6 : t = 6 ∨ t = 7 ∨ t = 8
  · exact rone_known c a t d w hc hs h6
  exact rone_told c a t d w hs h0 h6
end Go.Proofs.YtpkmpinbpfblfaaGreatDoor.I3
