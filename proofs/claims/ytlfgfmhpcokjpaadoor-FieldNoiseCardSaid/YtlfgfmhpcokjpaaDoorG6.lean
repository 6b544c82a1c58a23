/-
  The program's Get: the message that a TLV says. Conditions: a type from 2 to 5, at most 100000 bytes; the variable has what it is laid with.
-/
import Derived.Test.YtlfgfmhpcokjpaaDoorG5
namespace Go.Proofs.YtlfgfmhpcokjpaaDoor.G6
open Go.ChangeShapes Go.WideShapes Go.ChangeAt Go.RowKit
open Go.Proofs.YtlfgfmhpcokjpaaDoor.Ms
open Go.Proofs.YtlfgfmhpcokjpaaDoor.Box
open Go.Proofs.YtlfgfmhpcokjpaaDoor.S1
open Go.Proofs.YtlfgfmhpcokjpaaDoor.S5 (AnsS)
open Go.Proofs.YtlfgfmhpcokjpaaDoor.G1
open Go.Proofs.YtlfgfmhpcokjpaaDoor.G4
open Go.Proofs.YtlfgfmhpcokjpaaDoor.G5
open Go.Proofs.YtlfgfmhpcokjpaaDoor.An
open Go.Proofs.YtlfgfmhpcokjpaaDoor.Tb
open Go.Proofs.YtlfgfmhpcokjpaaDoor.Tl (cellsT)
open Go.Proofs.YtlfgfmhpcokjpaaDoor.Cur (new_any)
open Go.Proofs.YtlfgfmhpcokjpaaDoor.Bk (Bk wpList_builtK alloc_size)
open Go.Proofs.YtlfgfmhpcokjpaaDoor.Hs
set_option linter.unusedVariables false
set_option maxRecDepth 100000
theorem lst_cell {B : Nat} {w : World} {v u : Value} {l : List El} {p : Addr} (h : Sx.Lst B w v l) (hg : p.block < B) : Sx.Lst B (w.setCell p u) v l := by
  refine ⟨h.1, ?_⟩
  rcases h.2 with h | ⟨k, cap, cur, a, b, c, d⟩
  · exact .inl h
  · exact .inr ⟨k, cap, cur, a, b, (heap_setCell_other w p k u (by omega)).trans c, d⟩
set_option maxHeartbeats 6400000 in
theorem get_own (t a : Int) (s : ByteArray) (w : World) (h2 : 2 ≤ t) (h5 : t ≤ 5) (hs : s.size ≤ 100000) (ht : Tab w) : Calls Tryd.prog 13 #[.agg (cellsT (a, (s, t)))] w (AnsB (outF t s) w) := by
  have hm : s.size ≤ maxLen := by unfold maxLen; omega
  have PF := Lib.hid (fun b V h T q => fields_any t s b h2 h5 hm V h T q)
  have PR := Lib.hid (fun b (h : szF t s ≤ s.size) V r => rest_any s (szF t s) b hm h V r)
  have PS := Lib.hid (fun V => S5.get_own (s.extract (szF t s) s.size) V (by simp; omega))
  have PN := Lib.hid (fun V => new_any s V hm)
  have h0 := ht.pos
  go_enter Tryd.func13, Tryd.ntmps13
  go_upto_region 1 with fail
  change Code.wp _ _ _ _ ((w.alloc (.cells (cellsT (a, (s, t))) 31)).alloc (.cells M.zero.cells 25))
  have hz := alloc_size w (.cells (cellsT (a, (s, t))) 31)
  have X0 := Bx.new (w.alloc (.cells (cellsT (a, (s, t))) 31)) M.zero
  rw [hz] at X0
  have X0 := Lib.hid X0
  have T0 := Lib.hid ((Bk.Bk.new 31 w (cellsT (a, (s, t)))).old (.cells M.zero.cells 25))
  have HB := Lib.hid (balloc (balloc (Below.refl _ w) (.cells (cellsT (a, (s, t))) 31)) (.cells M.zero.cells 25))
  have HT := Lib.hid (ht.below HB.out)
  clear hz ht
  generalize (w.alloc (.cells (cellsT (a, (s, t))) 31)).alloc (.cells M.zero.cells 25) = W at *
  have c2 := T0.out.cell 2 (.string s) rfl
  go_wp2_with fail
  refine (PN.out _).mono ?_
  rintro e w1 ⟨rfl, hb⟩
  have X0 := Lib.hid (X0.out.below hb)
  have T0 := Lib.hid (T0.out.below hb)
  have HT := Lib.hid (HT.out.below hb)
  have HB := Lib.hid (bcall HB.out hb)
  clear hb c2 PN
  go_upto_region 2 with fail
  change Code.wp _ _ _ _ (w1.alloc (.cells (cu s (0, false)) 62))
  have bel := balloc (Below.refl w1.heap.size w1) (.cells (cu s (0, false)) 62)
  have hlt := X0.out.lt
  have X0 := Lib.hid (X0.out.below bel)
  have T0 := Lib.hid (T0.out.below bel)
  have HT := Lib.hid (HT.out.below bel)
  have HB := Lib.hid (bcall HB.out bel)
  have R0 := Lib.hid (Bk.Bk.new 62 w1 (cu s (0, false)))
  clear bel
  generalize w1.alloc (.cells (cu s (0, false)) 62) = W1 at *
  generalize w1.heap.size = b at *
  have c0 := T0.out.cell 0 (.int .i64 t) rfl
  go_wp2_with fail
  refine (PF.out b _ R0.out HT.out (by omega)).mono ?_
  rintro e w2 ⟨X, c, p, hI, rfl, hr, hbel⟩
  have X0 := Lib.hid (hbel.bx (by omega) X0.out)
  have R0 := Lib.hid hr
  have hW1 := HB.out.size
  have hW2 := X0.out.lt
  have HB := Lib.hid (HB.out.trans (hbel.to (C := w.heap.size) (by omega) (by omega)))
  clear hr hbel c0 T0 HT PF
  go_upto_region 3 with (refine wpList_storeM (b := w2.heap.size) (m := M.zero) (m' := X) rfl _ _ rfl rfl rfl (Bx.new w2 M.zero) ?_)
  change Code.wp _ _ _ _ ((w2.alloc (.cells M.zero.cells 25)).setRow w2.heap.size X.cells)
  rw [World.setRow_alloc_new]
  have bel := balloc (Below.refl w2.heap.size w2) (.cells X.cells 25)
  have hlt2 := R0.out.lt
  have X0 := Lib.hid (X0.out.below bel)
  have R0 := Lib.hid (R0.out.below bel)
  have HB := Lib.hid (bcall HB.out bel)
  have XM := Lib.hid (Bx.new w2 X)
  clear bel
  generalize w2.alloc (.cells X.cells 25) = V at *
  generalize w2.heap.size = g at *
  obtain ⟨q, y⟩ := p
  have c3 := R0.out.cell 3 (.bool y) rfl
  by_cases h : s.size < szF t s
  · obtain rfl : y = true := hI.1 h
    have HY := Lib.hid (out_short h)
    clear PR PS hI
    go_wp2_with (first | (refine wpList_builtK rfl 25 _ rfl (M.cells M.zero) (by kernel_rfl) ?_) | (refine wpList_storeM (b := w.heap.size + 1) (m := M.zero) (m' := M.zero) rfl _ _ rfl rfl rfl X0.out ?_))
    exact bodyPost_ret (v := .tuple #[.agg M.zero.cells, .bool false, .int .i64 2]) (ret3 rfl _ _ (w.heap.size + 1) M.zero rfl (X0.out.put (m' := M.zero)) (.bool false) rfl (.int .i64 2) rfl) rfl (AnsB.no HY.out (Box.below_setRow HB.out (by omega) _))
  obtain ⟨hp, hn, hk⟩ := hI.2 h
  obtain ⟨rfl, rfl⟩ : q = szF t s ∧ y = false := by simpa using hp
  clear hI hp
  by_cases k : noF t s
  · obtain rfl := hn k
    have HY := Lib.hid (out_none h k)
    clear PR PS hk hn
    go_wp2_with (first | (refine wpList_builtK rfl 25 _ rfl (M.cells M.zero) (by kernel_rfl) ?_) | (refine wpList_storeM (b := w.heap.size + 1) (m := M.zero) (m' := M.zero) rfl _ _ rfl rfl rfl X0.out ?_))
    exact bodyPost_ret (v := .tuple #[.agg M.zero.cells, .bool false, .int .i64 0]) (ret3 rfl _ _ (w.heap.size + 1) M.zero rfl (X0.out.put (m' := M.zero)) (.bool false) rfl (.int .i64 0) rfl) rfl (AnsB.no HY.out (Box.below_setRow HB.out (by omega) _))
  obtain ⟨rfl, rfl⟩ := hk k
  have HX := Lib.hid (show (hdF t s).la = (hdF t s).la from rfl)
  have PR := Lib.hid (PR.out b (by omega))
  clear hn hk
  obtain ⟨⟨l, kn, er⟩, ho⟩ : ∃ p, outS (s.extract (szF t s) s.size) = p := ⟨_, rfl⟩
  rw [ho] at PS
  go_wp2_with fail
  refine (PR.out _ R0.out).mono ?_
  rintro e w3 ⟨rfl, hr, hbel⟩
  have X0 := Lib.hid (hbel.bx (by omega) X0.out)
  have XM := Lib.hid (hbel.bx (by omega) XM.out)
  have hsz := HB.out.size
  have HB := Lib.hid (HB.out.trans (hbel.to (C := w.heap.size) (by omega) (by omega)))
  clear hr hbel R0 c3 PR
  have hg := XM.out.lt
  go_wp2_with fail
  refine (PS.out _).mono ?_
  rintro e w4 ⟨sa, sc, rfl, hl, hb⟩
  have X0 := Lib.hid (X0.out.below hb)
  have XM := Lib.hid (XM.out.below hb)
  have HB := Lib.hid (bcall HB.out hb)
  have HL := Lib.hid hl
  have hs3 := HB.out.size
  clear hb hl PS
  simp only [] at HL
  have hsw : w.heap.size ≤ w3.heap.size := by omega
  generalize w3.heap.size = z at *
  by_cases he : er = 0
  rotate_left
  · have HY := Lib.hid (out_sub h k ho (fun x => he x.1))
    have e1 : (er == 0) = false := by simpa using he
    have e2 : (er != 0) = true := by rw [bne, e1]; rfl
    clear he ho HX XM
    generalize hdF t s = x at *
    go_wp2_with (first | (refine wpList_builtK rfl 25 _ rfl (M.cells M.zero) (by kernel_rfl) ?_) | (refine wpList_storeM (b := w.heap.size + 1) (m := M.zero) (m' := M.zero) rfl _ _ rfl rfl rfl X0.out ?_))
    exact bodyPost_ret (v := .tuple #[.agg M.zero.cells, .bool false, .int .i64 er]) (ret3 rfl _ _ (w.heap.size + 1) M.zero rfl (X0.out.put (m' := M.zero)) (.bool false) rfl (.int .i64 er) rfl) rfl (AnsB.no HY.out (Box.below_setRow HB.out (by omega) _))
  subst he
  cases kn with
  | false =>
    have HY := Lib.hid (out_sub h k ho (fun x => by cases x.2))
    clear ho HX XM
    generalize hdF t s = x at *
    go_wp2_with (first | (refine wpList_builtK rfl 25 _ rfl (M.cells M.zero) (by kernel_rfl) ?_) | (refine wpList_storeM (b := w.heap.size + 1) (m := M.zero) (m' := M.zero) rfl _ _ rfl rfl rfl X0.out ?_))
    exact bodyPost_ret (v := .tuple #[.agg M.zero.cells, .bool false, .int .i64 0]) (ret3 rfl _ _ (w.heap.size + 1) M.zero rfl (X0.out.put (m' := M.zero)) (.bool false) rfl (.int .i64 0) rfl) rfl (AnsB.no HY.out (Box.below_setRow HB.out (by omega) _))
  | true =>
    have HY := Lib.hid (out_yes h k ho)
    clear ho HX h k
    generalize hdF t s = x at *
    have d := XM.out.cs.c24
    have fd := XM.out.frozen 24
    go_upto_region 11 with fail
    have XM := Lib.hid (XM.out.set (i := 24) (v := .slice sa l.length sc) (m' := { x with sa := sa, sl := l, sc := sc }) rfl)
    have X0 := Lib.hid (X0.out.off (p := ⟨g, 24, none⟩) (by show w.heap.size + 1 ≠ g; omega) (.slice sa l.length sc))
    have HB := Lib.hid (HB.out.setCell (p := ⟨g, 24, none⟩) (by show w.heap.size ≤ g; omega) (.slice sa l.length sc))
    have HL := Lib.hid (lst_cell (u := .slice sa l.length sc) (p := ⟨g, 24, none⟩) HL.out hg)
    clear d fd
    generalize w4.setCell ⟨g, 24, none⟩ (.slice sa l.length sc) = V5 at *
    go_wp2_with (first | (refine wpList_loadM (b := g) (m := { x with sa := sa, sl := l, sc := sc }) rfl _ rfl rfl XM.out ?_) | (refine wpList_storeM (b := w.heap.size + 1) (m := M.zero) (m' := { x with sa := sa, sl := l, sc := sc }) rfl _ _ rfl rfl rfl X0.out ?_))
    exact bodyPost_ret (v := .tuple #[.agg (M.cells { x with sa := sa, sl := l, sc := sc }), .bool true, .int .i64 0]) (ret3 rfl _ _ (w.heap.size + 1) { x with sa := sa, sl := l, sc := sc } rfl (X0.out.put (m' := { x with sa := sa, sl := l, sc := sc })) (.bool true) rfl (.int .i64 0) rfl) rfl (AnsB.subs HY.out (lst_under HL.out (by omega) _) hsw (Box.below_setRow HB.out (by omega) _))
end Go.Proofs.YtlfgfmhpcokjpaaDoor.G6
