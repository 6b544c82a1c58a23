/-
  The program's calls on the reader: a number, a text, the rest, the fields of each type. Conditions: at most 2^20 bytes; the variable has what it is laid with.
  The program's fields and Get: which message a TLV says. Conditions: a type from 2 to 5, at most 100000 bytes; the variable has what it is laid with.
  The program's Get: the message that a TLV says. Conditions: a type from 2 to 5, at most 100000 bytes; the variable has what it is laid with.
-/
import Derived.Test.YtpkmpinbpfblfaaGreatDoorQ04
import Derived.Test.YtpkmpinbpfblfaaGreatDoorQ05
import Derived.Test.YtpkmpinbpfblfaaGreatDoorQ06
import Derived.Test.YtpkmpinbpfblfaaGreatDoorQ09
namespace Go.Proofs.YtpkmpinbpfblfaaGreatDoor.G4
open Go.ChangeShapes Go.WideShapes Go.ChangeAt Go.RowKit
open Go.Proofs.YtpkmpinbpfblfaaGreatDoor.Ms
open Go.Proofs.YtpkmpinbpfblfaaGreatDoor.Box
open Go.Proofs.YtpkmpinbpfblfaaGreatDoor.Nu
open Go.Proofs.YtpkmpinbpfblfaaGreatDoor.G1
open Go.Proofs.YtpkmpinbpfblfaaGreatDoor.G2
open Go.Proofs.YtpkmpinbpfblfaaGreatDoor.An
open Go.Proofs.YtpkmpinbpfblfaaGreatDoor.Tc
open Go.Proofs.YtpkmpinbpfblfaaGreatDoor.Rg
open Go.Proofs.YtpkmpinbpfblfaaGreatDoor.F1 (bt bt_nn bt_lt num_one num_two)
open Go.Proofs.YtpkmpinbpfblfaaGreatDoor.Cur (numL num_yes num_no text_yes text_no new_any left_ok hasB)
open Go.Proofs.YtpkmpinbpfblfaaGreatDoor.Bk (Bk Sh shC cur cur_one loadVarK wpList_builtK wpList_loadK wpList_storeK run_loadK alloc_size results_one results_pair)
open Go.Proofs.YtpkmpinbpfblfaaGreatDoor.Hs
set_option linter.unusedVariables false
set_option maxRecDepth 100000
set_option maxRecDepth 100000
/-- What a call on the reader in block b leaves: the answer, the place. -/
def Took (v : Value) (s : ByteArray) (p : Nat × Bool) (b : Nat) (w : World) (e : Ending) (w' : World) : Prop := e = .returned v ∧ Bk 75 w' b (cu s p) ∧ Bel w.heap.size b w w'
set_option maxHeartbeats 800000 in
theorem rdnum (s : ByteArray) (p : Nat × Bool) (k b : Nat) (ki : Int) (hki : ki = k) (hs : s.size ≤ maxLen) (hp : p.1 ≤ s.size) (h4 : 1 ≤ k) (h5 : k ≤ 7) (w : World) (hb : Bk 75 w b (cu s p)) :
    Calls Tryz.prog 63 #[.pointer (some ⟨b, 0, none⟩), .int .i64 ki] w (Took (.int .i64 (rdV s p k)) s (nx s k p) b w) := by
  have P := Lib.hid (cnum s p k ki hki hs hp h4 h5 w)
  have HQ := Lib.hid (show cu s (nx s k p) = #[.string s, .int .i64 ((nx s k p).1 : Int), .int .i64 (s.size : Int), .bool (nx s k p).2] from rfl)
  have HB := Lib.hid hb
  have hlt := hb.lt
  clear hb hki hp
  unfold Took
  generalize rdV s p k = v at *
  generalize nx s k p = q at *
  rw [HQ.out]
  clear HQ
  go_enter Tryz.func63, Tryz.ntmps63
  go_wp2_with (first | (refine wpList_loadK shC rfl _ rfl rfl HB.out rfl ?_))
  refine P.out.mono ?_
  rintro e w1 ⟨rfl, hb1⟩
  have HB1 := Lib.hid (HB.out.below hb1)
  have hlt1 := HB1.out.lt
  go_wp2_with (first | (refine wpList_storeK (b := b) shC rfl _ _ rfl rfl rfl (HB1.out.old _) rfl rfl (cur_one s (q.1 : Int) s.size q.2) ?_))
  go_ret
  exact ⟨rfl, (HB1.out.old _).put _, (Bel.of (hb1.alloc hb1.size _)).trans (Bel.rowb _ _)⟩
set_option maxHeartbeats 800000 in
theorem rdtext (s : ByteArray) (p : Nat × Bool) (k b : Nat) (ki : Int) (hki : ki = k) (hs : s.size ≤ maxLen) (hp : p.1 ≤ s.size) (w : World) (hb : Bk 75 w b (cu s p)) :
    Calls Tryz.prog 68 #[.pointer (some ⟨b, 0, none⟩), .int .i64 ki] w (Took (.string (rdT s p k)) s (nx s k p) b w) := by
  have P := Lib.hid (ctext s p k ki hki hs hp w)
  have HQ := Lib.hid (show cu s (nx s k p) = #[.string s, .int .i64 ((nx s k p).1 : Int), .int .i64 (s.size : Int), .bool (nx s k p).2] from rfl)
  have HB := Lib.hid hb
  have hlt := hb.lt
  clear hb hki hp
  unfold Took
  generalize rdT s p k = v at *
  generalize nx s k p = q at *
  rw [HQ.out]
  clear HQ
  go_enter Tryz.func68, Tryz.ntmps68
  go_wp2_with (first | (refine wpList_loadK shC rfl _ rfl rfl HB.out rfl ?_))
  refine P.out.mono ?_
  rintro e w1 ⟨rfl, hb1⟩
  have HB1 := Lib.hid (HB.out.below hb1)
  have hlt1 := HB1.out.lt
  go_wp2_with (first | (refine wpList_storeK (b := b) shC rfl _ _ rfl rfl rfl (HB1.out.old _) rfl rfl (cur_one s (q.1 : Int) s.size q.2) ?_))
  go_ret
  exact ⟨rfl, (HB1.out.old _).put _, (Bel.of (hb1.alloc hb1.size _)).trans (Bel.rowb _ _)⟩
set_option maxHeartbeats 800000 in
theorem rest_any (s : ByteArray) (a b : Nat) (hs : s.size ≤ maxLen) (ha : a ≤ s.size) (w : World) (hb : Bk 75 w b (cu s (a, false))) :
    Calls Tryz.prog 41 #[.pointer (some ⟨b, 0, none⟩)] w (Took (.string (s.extract a s.size)) s (s.size, false) b w) := by
  have hm := hs
  unfold maxLen at hm
  have PL := Lib.hid (left_ok s a s.size w)
  rw [IntWalk.wrap64_in _ ⟨by omega, by omega⟩] at PL
  have PT := Lib.hid (fun V (h : Bk 75 V b (cu s (a, false))) => rdtext s (a, false) (s.size - a) b ((s.size : Int) - a) (by omega) hs ha V h)
  have e1 : nx s (s.size - a) (a, false) = (s.size, false) := by rw [nx_yes (by omega)]; simp; omega
  have e2 : rdT s (a, false) (s.size - a) = s.extract a s.size := by rw [t_yes (by omega)]; congr 1; omega
  rw [e1, e2] at PT
  have HB := Lib.hid hb
  clear hb hs hm ha e1 e2
  go_enter Tryz.func41, Tryz.ntmps41
  go_wp2_with (first | (refine wpList_loadK shC rfl _ rfl rfl HB.out rfl ?_))
  refine PL.out.mono ?_
  rintro e w1 ⟨rfl, hb1⟩
  have HB := Lib.hid (HB.out.below hb1)
  have HL := Lib.hid (show Bel w.heap.size b w w1 from Bel.of hb1)
  have hsz := hb1.size
  clear hb1 PL
  go_wp2_with fail
  refine (PT.out _ HB.out).mono ?_
  rintro e w2 ⟨rfl, h1, h2⟩
  have HX := Lib.hid h1
  have HL := Lib.hid (HL.out.trans (h2.mono hsz))
  clear h1 h2
  go_wp2
  go_ret
  exact ⟨rfl, HX.out, HL.out⟩
/-- What stands in the middle of a kind's fields: the answer's block, the message in block mb, the reader in block b. -/
structure R (w0 W : World) (b mb : Nat) (s : ByteArray) (m : M) (p : Nat × Bool) : Prop where
  msg : Bx W mb m
  rd : Bk 75 W b (cu s p)
  res : Bx W w0.heap.size M.zero
  o1 : w0.heap.size < mb
  o2 : b < w0.heap.size
  bel : Bel w0.heap.size b w0 W
  le : p.1 ≤ s.size
section
variable {w0 W W' : World} {b mb : Nat} {s : ByteArray} {m m' : M} {p p' : Nat × Bool}
theorem R.step {v : Value} {k : Nat} {e : Ending} (g : R w0 W b mb s m p) (h : Took v s (nx s k p) b W e W') : R w0 W' b mb s m (nx s k p) :=
  ⟨h.2.2.bx (by have := g.o1; have := g.o2; omega) g.msg, h.2.1, h.2.2.bx (by have := g.o2; omega) g.res, g.o1, g.o2, g.bel.trans (h.2.2.mono g.bel.size), nx_le g.le⟩
theorem R.set (g : R w0 W b mb s m p) {i : Nat} {v : Value} (hm : m.cells.setIfInBounds i v = m'.cells) : R w0 (W.setCell ⟨mb, i, none⟩ v) b mb s m' p :=
  ⟨g.msg.set hm, g.rd.off (by have := g.o1; have := g.o2; show b ≠ mb; omega) _, g.res.off (by have := g.o1; show w0.heap.size ≠ mb; omega) _, g.o1, g.o2, g.bel.cell (p := ⟨mb, i, none⟩) (by have := g.o1; show w0.heap.size ≤ mb; omega) _, g.le⟩
theorem R.start (w : World) (s : ByteArray) (m0 : M) (hb : Bk 75 w b (cu s p)) (hp : p.1 ≤ s.size) :
    R w (((w.alloc (.cells M.zero.cells 43)).alloc (.cells M.zero.cells 43)).setRow (w.heap.size + 1) m0.cells) b (w.heap.size + 1) s m0 p := by
  have A := Bx.new (w.alloc (.cells M.zero.cells 43)) M.zero
  rw [alloc_size] at A
  have hl := hb.lt
  exact ⟨A.put, ((hb.old _).old _).row (by omega) _, ((Bx.new w M.zero).old _).row (by omega) _, by omega, hl,
    (Bel.of (balloc (balloc (Below.refl _ w) _) _)).row (by omega) _, hp⟩
theorem R.ends (g : R w0 W b mb s m p) (r : M) : Bx (W.setRow w0.heap.size r.cells) w0.heap.size r ∧ Bk 75 (W.setRow w0.heap.size r.cells) b (cu s p) ∧ Bel w0.heap.size b w0 (W.setRow w0.heap.size r.cells) :=
  ⟨g.res.put, g.rd.row (by have := g.o2; omega) _, g.bel.row (Nat.le_refl _) _⟩
end
theorem R.drew {w0 W : World} {b mb : Nat} {s : ByteArray} {m : M} {p : Nat × Bool} (g : R w0 W b mb s m p) : R w0 W.drew b mb s m p := ⟨g.msg, g.rd, g.res, g.o1, g.o2, ⟨g.bel.os, g.bel.tape, g.bel.output, g.bel.size, g.bel.block⟩, g.le⟩
/-- What the reads of ihu's last region read. -/
def Ih (mb i : Nat) (x k : Int) (W : World) : Prop := W.cell? ⟨mb, 5, none⟩ = some (.int .i64 x) ∧ W.cell? ⟨0, i, none⟩ = some (.int .i64 k)
theorem Ih.of {mb i : Nat} {x k : Int} {m : M} {W : World} (h : Bx W mb m) (e : m.ae = x) (t : W.cell? ⟨0, i, none⟩ = some (.int .i64 k)) : Ih mb i x k W := ⟨by rw [← e]; exact h.cs.c5, t⟩
theorem shM : Sh Tryz.prog 43 25 := ⟨_, Tryz.underlying43, by kernel_rfl⟩
/-- What ackReq takes. -/
def R2 (s : ByteArray) : M := { M.zero with kind := 7, nonce := rdV s (nx s 2 (0, false)) 2, interval := rdV s (nx s 2 (nx s 2 (0, false))) 2 }
set_option maxHeartbeats 3200000 in
theorem ack_any (s : ByteArray) (b : Nat) (hs : s.size ≤ maxLen) (w : World) (hb : Bk 75 w b (cu s (0, false))) :
    Calls Tryz.prog 62 #[.pointer (some ⟨b, 0, none⟩)] w (Took (.agg (R2 s).cells) s (nx s 2 (nx s 2 (nx s 2 (0, false)))) b w) := by
  show Calls _ _ _ _ (Took (.agg (M.cells ({ M.zero with kind := 7, nonce := (rdV s (nx s 2 (0, false)) 2), interval := (rdV s (nx s 2 (nx s 2 (0, false))) 2) } : M))) s (nx s 2 (nx s 2 (nx s 2 (0, false)))) b w)
  go_enter Tryz.func62, Tryz.ntmps62
  go_upto_region 1 with fail
  change Code.wp _ _ _ _ (w.alloc (.cells M.zero.cells 43))
  have hz := alloc_size w (.cells M.zero.cells 43)
  have A0 := Bx.new (w.alloc (.cells M.zero.cells 43)) M.zero
  rw [hz] at A0
  have HG := Lib.hid (R.start w s ({ M.zero with kind := 7 } : M) hb (Nat.zero_le _))
  clear hb
  generalize w.alloc (.cells M.zero.cells 43) = W at *
  go_upto_region 2 with (first | (refine wpList_builtK rfl 43 _ rfl (M.cells ({ M.zero with kind := 7 } : M)) (by kernel_rfl) ?_) | (change wpList _ _ _ _ _ (W.alloc (.cells M.zero.cells 43)); refine wpList_storeM (b := w.heap.size + 1) (m := M.zero) (m' := ({ M.zero with kind := 7 } : M)) rfl _ _ rfl (by first | rfl | (rw [← hz]; rfl)) rfl A0 ?_))
  try rw [hz]
  clear A0 hz
  generalize (W.alloc (.cells M.zero.cells 43)).setRow (w.heap.size + 1) _ = V at *
  clear W
  go_wp2_with fail
  refine (rdtext s (0, false) 2 b 2 rfl hs HG.out.le _ HG.out.rd).mono ?_
  intro e V1 ht
  have G0 := HG.out.step ht
  obtain ⟨rfl, ht⟩ := ht
  clear ht HG
  have HG := Lib.hid G0
  clear G0
  go_wp2_with fail
  refine (rdnum s (nx s 2 (0, false)) 2 b 2 rfl hs HG.out.le (by omega) (by omega) _ HG.out.rd).mono ?_
  intro e V2 ht
  have G0 := HG.out.step ht
  obtain ⟨rfl, ht⟩ := ht
  clear ht HG
  have d := G0.msg.cs.c17
  have fd := G0.msg.frozen 17
  have HG := Lib.hid (show R w (V2.setCell ⟨w.heap.size + 1, 17, none⟩ (.int .i64 (rdV s (nx s 2 (0, false)) 2))) b (w.heap.size + 1) s ({ M.zero with kind := 7, nonce := (rdV s (nx s 2 (0, false)) 2) } : M) (nx s 2 (nx s 2 (0, false))) from G0.set (m' := ({ M.zero with kind := 7, nonce := (rdV s (nx s 2 (0, false)) 2) } : M)) rfl)
  clear G0
  go_upto_region 4 with fail
  clear d fd
  generalize V2.setCell ⟨w.heap.size + 1, 17, none⟩ (.int .i64 (rdV s (nx s 2 (0, false)) 2)) = W2 at *
  go_wp2_with fail
  refine (rdnum s (nx s 2 (nx s 2 (0, false))) 2 b 2 rfl hs HG.out.le (by omega) (by omega) _ HG.out.rd).mono ?_
  intro e V3 ht
  have G0 := HG.out.step ht
  obtain ⟨rfl, ht⟩ := ht
  clear ht HG
  have d := G0.msg.cs.c14
  have fd := G0.msg.frozen 14
  have HG := Lib.hid (show R w (V3.setCell ⟨w.heap.size + 1, 14, none⟩ (.int .i64 (rdV s (nx s 2 (nx s 2 (0, false))) 2))) b (w.heap.size + 1) s ({ M.zero with kind := 7, nonce := (rdV s (nx s 2 (0, false)) 2), interval := (rdV s (nx s 2 (nx s 2 (0, false))) 2) } : M) (nx s 2 (nx s 2 (nx s 2 (0, false)))) from G0.set (m' := ({ M.zero with kind := 7, nonce := (rdV s (nx s 2 (0, false)) 2), interval := (rdV s (nx s 2 (nx s 2 (0, false))) 2) } : M)) rfl)
  clear G0
  go_upto_region 5 with fail
  clear d fd
  generalize V3.setCell ⟨w.heap.size + 1, 14, none⟩ (.int .i64 (rdV s (nx s 2 (nx s 2 (0, false))) 2)) = W3 at *
  have HE := Lib.hid (HG.out.ends ({ M.zero with kind := 7, nonce := (rdV s (nx s 2 (0, false)) 2), interval := (rdV s (nx s 2 (nx s 2 (0, false))) 2) } : M))
  go_wp2_with (first | (refine wpList_loadM (b := w.heap.size + 1) (m := ({ M.zero with kind := 7, nonce := (rdV s (nx s 2 (0, false)) 2), interval := (rdV s (nx s 2 (nx s 2 (0, false))) 2) } : M)) rfl _ rfl rfl HG.out.msg ?_) | (refine wpList_storeM (b := w.heap.size) (m := M.zero) (m' := ({ M.zero with kind := 7, nonce := (rdV s (nx s 2 (0, false)) 2), interval := (rdV s (nx s 2 (nx s 2 (0, false))) 2) } : M)) rfl _ _ rfl rfl rfl HG.out.res ?_))
  exact bodyPost_ret (v := .agg (M.cells ({ M.zero with kind := 7, nonce := (rdV s (nx s 2 (0, false)) 2), interval := (rdV s (nx s 2 (nx s 2 (0, false))) 2) } : M))) (results_one rfl _ _ w.heap.size _ rfl shM HE.out.1 rfl) rfl ⟨rfl, HE.out.2.1, HE.out.2.2⟩
/-- What hello takes. -/
def R4 (s : ByteArray) : M := { M.zero with kind := 9, flags := rdV s (0, false) 2 / 32768, seq := rdV s (nx s 2 (0, false)) 2, interval := rdV s (nx s 2 (nx s 2 (0, false))) 2 }
set_option maxHeartbeats 3200000 in
theorem hello_any (s : ByteArray) (b : Nat) (hs : s.size ≤ maxLen) (w : World) (hb : Bk 75 w b (cu s (0, false))) :
    Calls Tryz.prog 64 #[.pointer (some ⟨b, 0, none⟩)] w (Took (.agg (R4 s).cells) s (nx s 2 (nx s 2 (nx s 2 (0, false)))) b w) := by
  show Calls _ _ _ _ (Took (.agg (M.cells ({ M.zero with kind := 9, flags := ((rdV s (0, false) 2) / 32768), seq := (rdV s (nx s 2 (0, false)) 2), interval := (rdV s (nx s 2 (nx s 2 (0, false))) 2) } : M))) s (nx s 2 (nx s 2 (nx s 2 (0, false)))) b w)
  go_enter Tryz.func64, Tryz.ntmps64
  go_upto_region 1 with fail
  change Code.wp _ _ _ _ (w.alloc (.cells M.zero.cells 43))
  have hz := alloc_size w (.cells M.zero.cells 43)
  have A0 := Bx.new (w.alloc (.cells M.zero.cells 43)) M.zero
  rw [hz] at A0
  have HG := Lib.hid (R.start w s ({ M.zero with kind := 9 } : M) hb (Nat.zero_le _))
  clear hb
  generalize w.alloc (.cells M.zero.cells 43) = W at *
  go_upto_region 2 with (first | (refine wpList_builtK rfl 43 _ rfl (M.cells ({ M.zero with kind := 9 } : M)) (by kernel_rfl) ?_) | (change wpList _ _ _ _ _ (W.alloc (.cells M.zero.cells 43)); refine wpList_storeM (b := w.heap.size + 1) (m := M.zero) (m' := ({ M.zero with kind := 9 } : M)) rfl _ _ rfl (by first | rfl | (rw [← hz]; rfl)) rfl A0 ?_))
  try rw [hz]
  clear A0 hz
  generalize (W.alloc (.cells M.zero.cells 43)).setRow (w.heap.size + 1) _ = V at *
  clear W
  go_wp2_with fail
  refine (rdnum s (0, false) 2 b 2 rfl hs HG.out.le (by omega) (by omega) _ HG.out.rd).mono ?_
  intro e V4 ht
  have G0 := HG.out.step ht
  obtain ⟨rfl, ht⟩ := ht
  clear ht HG
  have d := G0.msg.cs.c15
  have fd := G0.msg.frozen 15
  have HG := Lib.hid (show R w (V4.setCell ⟨w.heap.size + 1, 15, none⟩ (.int .i64 ((rdV s (0, false) 2) / 32768))) b (w.heap.size + 1) s ({ M.zero with kind := 9, flags := ((rdV s (0, false) 2) / 32768) } : M) (nx s 2 (0, false)) from G0.set (m' := ({ M.zero with kind := 9, flags := ((rdV s (0, false) 2) / 32768) } : M)) rfl)
  clear G0
  have hv := v_range (s := s) (p := (0, false)) (k := 2) 65536 (by decide) (by decide)
  go_upto_region 3 with fail
  clear d fd hv
  generalize V4.setCell ⟨w.heap.size + 1, 15, none⟩ (.int .i64 ((rdV s (0, false) 2) / 32768)) = W4 at *
  go_wp2_with fail
  refine (rdnum s (nx s 2 (0, false)) 2 b 2 rfl hs HG.out.le (by omega) (by omega) _ HG.out.rd).mono ?_
  intro e V5 ht
  have G0 := HG.out.step ht
  obtain ⟨rfl, ht⟩ := ht
  clear ht HG
  have d := G0.msg.cs.c12
  have fd := G0.msg.frozen 12
  have HG := Lib.hid (show R w (V5.setCell ⟨w.heap.size + 1, 12, none⟩ (.int .i64 (rdV s (nx s 2 (0, false)) 2))) b (w.heap.size + 1) s ({ M.zero with kind := 9, flags := ((rdV s (0, false) 2) / 32768), seq := (rdV s (nx s 2 (0, false)) 2) } : M) (nx s 2 (nx s 2 (0, false))) from G0.set (m' := ({ M.zero with kind := 9, flags := ((rdV s (0, false) 2) / 32768), seq := (rdV s (nx s 2 (0, false)) 2) } : M)) rfl)
  clear G0
  go_upto_region 4 with fail
  clear d fd
  generalize V5.setCell ⟨w.heap.size + 1, 12, none⟩ (.int .i64 (rdV s (nx s 2 (0, false)) 2)) = W5 at *
  go_wp2_with fail
  refine (rdnum s (nx s 2 (nx s 2 (0, false))) 2 b 2 rfl hs HG.out.le (by omega) (by omega) _ HG.out.rd).mono ?_
  intro e V6 ht
  have G0 := HG.out.step ht
  obtain ⟨rfl, ht⟩ := ht
  clear ht HG
  have d := G0.msg.cs.c14
  have fd := G0.msg.frozen 14
  have HG := Lib.hid (show R w (V6.setCell ⟨w.heap.size + 1, 14, none⟩ (.int .i64 (rdV s (nx s 2 (nx s 2 (0, false))) 2))) b (w.heap.size + 1) s ({ M.zero with kind := 9, flags := ((rdV s (0, false) 2) / 32768), seq := (rdV s (nx s 2 (0, false)) 2), interval := (rdV s (nx s 2 (nx s 2 (0, false))) 2) } : M) (nx s 2 (nx s 2 (nx s 2 (0, false)))) from G0.set (m' := ({ M.zero with kind := 9, flags := ((rdV s (0, false) 2) / 32768), seq := (rdV s (nx s 2 (0, false)) 2), interval := (rdV s (nx s 2 (nx s 2 (0, false))) 2) } : M)) rfl)
  clear G0
  go_upto_region 5 with fail
  clear d fd
  generalize V6.setCell ⟨w.heap.size + 1, 14, none⟩ (.int .i64 (rdV s (nx s 2 (nx s 2 (0, false))) 2)) = W6 at *
  have HE := Lib.hid (HG.out.ends ({ M.zero with kind := 9, flags := ((rdV s (0, false) 2) / 32768), seq := (rdV s (nx s 2 (0, false)) 2), interval := (rdV s (nx s 2 (nx s 2 (0, false))) 2) } : M))
  go_wp2_with (first | (refine wpList_loadM (b := w.heap.size + 1) (m := ({ M.zero with kind := 9, flags := ((rdV s (0, false) 2) / 32768), seq := (rdV s (nx s 2 (0, false)) 2), interval := (rdV s (nx s 2 (nx s 2 (0, false))) 2) } : M)) rfl _ rfl rfl HG.out.msg ?_) | (refine wpList_storeM (b := w.heap.size) (m := M.zero) (m' := ({ M.zero with kind := 9, flags := ((rdV s (0, false) 2) / 32768), seq := (rdV s (nx s 2 (0, false)) 2), interval := (rdV s (nx s 2 (nx s 2 (0, false))) 2) } : M)) rfl _ _ rfl rfl rfl HG.out.res ?_))
  exact bodyPost_ret (v := .agg (M.cells ({ M.zero with kind := 9, flags := ((rdV s (0, false) 2) / 32768), seq := (rdV s (nx s 2 (0, false)) 2), interval := (rdV s (nx s 2 (nx s 2 (0, false))) 2) } : M))) (results_one rfl _ _ w.heap.size _ rfl shM HE.out.1 rfl) rfl ⟨rfl, HE.out.2.1, HE.out.2.2⟩
/-- What ihu takes ahead of the address; the whole, and whether it is one. -/
def I5 (s : ByteArray) : M := { M.zero with kind := 10, ae := rdV s (0, false) 1, cost := rdV s (nx s 1 (nx s 1 (0, false))) 2, interval := rdV s (nx s 2 (nx s 1 (nx s 1 (0, false)))) 2 }
def pI (s : ByteArray) : Nat × Bool := (nx s 2 (nx s 2 (nx s 1 (nx s 1 (0, false)))))
def R5 (s : ByteArray) : M := if 3 < rdV s (0, false) 1 then M.zero else { I5 s with addr := lgT (rdV s (0, false) 1) (rdT s (pI s) (sizeA (rdV s (0, false) 1))) }
def b5 (s : ByteArray) : Bool := decide (rdV s (0, false) 1 ≤ 3)
def p5 (s : ByteArray) : Nat × Bool := if 3 < rdV s (0, false) 1 then pI s else nx s (sizeA (rdV s (0, false) 1)) (pI s)
/-- What ihu leaves. -/
def TookB (m : M) (c : Bool) (s : ByteArray) (p : Nat × Bool) (b : Nat) (w : World) (e : Ending) (w' : World) : Prop := e = .returned (.tuple #[.agg m.cells, .bool c]) ∧ Bk 75 w' b (cu s p) ∧ Bel w.heap.size b w w'
set_option maxHeartbeats 6400000 in
theorem ihu_any (s : ByteArray) (b : Nat) (hs : s.size ≤ maxLen) (w : World) (hb : Bk 75 w b (cu s (0, false))) (ht : Tab w) (hb0 : 2 < b) :
    Calls Tryz.prog 65 #[.pointer (some ⟨b, 0, none⟩)] w (TookB (R5 s) (b5 s) s (p5 s) b w) := by
  have HT := Lib.hid ht
  have hw0 := ht.pos
  clear ht
  go_enter Tryz.func65, Tryz.ntmps65
  go_upto_region 1 with fail
  change Code.wp _ _ _ _ (w.alloc (.cells M.zero.cells 43))
  have hz := alloc_size w (.cells M.zero.cells 43)
  have A0 := Bx.new (w.alloc (.cells M.zero.cells 43)) M.zero
  rw [hz] at A0
  have HG := Lib.hid (R.start w s ({ M.zero with kind := 10 } : M) hb (Nat.zero_le _))
  clear hb
  generalize w.alloc (.cells M.zero.cells 43) = W at *
  go_upto_region 2 with (first | (refine wpList_builtK rfl 43 _ rfl (M.cells ({ M.zero with kind := 10 } : M)) (by kernel_rfl) ?_) | (change wpList _ _ _ _ _ (W.alloc (.cells M.zero.cells 43)); refine wpList_storeM (b := w.heap.size + 1) (m := M.zero) (m' := ({ M.zero with kind := 10 } : M)) rfl _ _ rfl (by first | rfl | (rw [← hz]; rfl)) rfl A0 ?_))
  try rw [hz]
  clear A0 hz
  generalize (W.alloc (.cells M.zero.cells 43)).setRow (w.heap.size + 1) _ = V at *
  clear W
  go_wp2_with fail
  refine (rdnum s (0, false) 1 b 1 rfl hs HG.out.le (by omega) (by omega) _ HG.out.rd).mono ?_
  intro e V7 ht
  have G0 := HG.out.step ht
  obtain ⟨rfl, ht⟩ := ht
  clear ht HG
  have d := G0.msg.cs.c5
  have fd := G0.msg.frozen 5
  have HG := Lib.hid (show R w (V7.setCell ⟨w.heap.size + 1, 5, none⟩ (.int .i64 (rdV s (0, false) 1))) b (w.heap.size + 1) s ({ M.zero with kind := 10, ae := (rdV s (0, false) 1) } : M) (nx s 1 (0, false)) from G0.set (m' := ({ M.zero with kind := 10, ae := (rdV s (0, false) 1) } : M)) rfl)
  clear G0
  go_upto_region 3 with fail
  clear d fd
  generalize V7.setCell ⟨w.heap.size + 1, 5, none⟩ (.int .i64 (rdV s (0, false) 1)) = W7 at *
  go_wp2_with fail
  refine (rdtext s (nx s 1 (0, false)) 1 b 1 rfl hs HG.out.le _ HG.out.rd).mono ?_
  intro e V8 ht
  have G0 := HG.out.step ht
  obtain ⟨rfl, ht⟩ := ht
  clear ht HG
  have HG := Lib.hid G0
  clear G0
  go_wp2_with fail
  refine (rdnum s (nx s 1 (nx s 1 (0, false))) 2 b 2 rfl hs HG.out.le (by omega) (by omega) _ HG.out.rd).mono ?_
  intro e V9 ht
  have G0 := HG.out.step ht
  obtain ⟨rfl, ht⟩ := ht
  clear ht HG
  have d := G0.msg.cs.c18
  have fd := G0.msg.frozen 18
  have HG := Lib.hid (show R w (V9.setCell ⟨w.heap.size + 1, 18, none⟩ (.int .i64 (rdV s (nx s 1 (nx s 1 (0, false))) 2))) b (w.heap.size + 1) s ({ M.zero with kind := 10, ae := (rdV s (0, false) 1), cost := (rdV s (nx s 1 (nx s 1 (0, false))) 2) } : M) (nx s 2 (nx s 1 (nx s 1 (0, false)))) from G0.set (m' := ({ M.zero with kind := 10, ae := (rdV s (0, false) 1), cost := (rdV s (nx s 1 (nx s 1 (0, false))) 2) } : M)) rfl)
  clear G0
  go_upto_region 5 with fail
  clear d fd
  generalize V9.setCell ⟨w.heap.size + 1, 18, none⟩ (.int .i64 (rdV s (nx s 1 (nx s 1 (0, false))) 2)) = W9 at *
  go_wp2_with fail
  refine (rdnum s (nx s 2 (nx s 1 (nx s 1 (0, false)))) 2 b 2 rfl hs HG.out.le (by omega) (by omega) _ HG.out.rd).mono ?_
  intro e V10 ht
  have G0 := HG.out.step ht
  obtain ⟨rfl, ht⟩ := ht
  clear ht HG
  have d := G0.msg.cs.c14
  have fd := G0.msg.frozen 14
  have HG := Lib.hid (show R w (V10.setCell ⟨w.heap.size + 1, 14, none⟩ (.int .i64 (rdV s (nx s 2 (nx s 1 (nx s 1 (0, false)))) 2))) b (w.heap.size + 1) s ({ M.zero with kind := 10, ae := (rdV s (0, false) 1), cost := (rdV s (nx s 1 (nx s 1 (0, false))) 2), interval := (rdV s (nx s 2 (nx s 1 (nx s 1 (0, false)))) 2) } : M) (nx s 2 (nx s 2 (nx s 1 (nx s 1 (0, false))))) from G0.set (m' := ({ M.zero with kind := 10, ae := (rdV s (0, false) 1), cost := (rdV s (nx s 1 (nx s 1 (0, false))) 2), interval := (rdV s (nx s 2 (nx s 1 (nx s 1 (0, false)))) 2) } : M)) rfl)
  clear G0
  go_upto_region 6 with fail
  clear d fd
  generalize V10.setCell ⟨w.heap.size + 1, 14, none⟩ (.int .i64 (rdV s (nx s 2 (nx s 1 (nx s 1 (0, false)))) 2)) = W10 at *
  have HG1 := Lib.hid (show R w W10 b (w.heap.size + 1) s (I5 s) (pI s) from HG.out)
  clear HG
  have HG := HG1
  clear HG1
  have HV := Lib.hid (show (I5 s).ae = rdV s (0, false) 1 from rfl)
  have PI := Lib.hid (fun x V => ae_any x V)
  have hv := v_range (s := s) (p := (0, false)) (k := 1) 256 (by decide) (by decide)
  have HR := Lib.hid (show R5 s = if 3 < rdV s (0, false) 1 then M.zero else { I5 s with addr := lgT (rdV s (0, false) 1) (rdT s (pI s) (sizeA (rdV s (0, false) 1))) } from rfl)
  have HQ := Lib.hid (show p5 s = if 3 < rdV s (0, false) 1 then pI s else nx s (sizeA (rdV s (0, false) 1)) (pI s) from rfl)
  have HC := Lib.hid (show b5 s = decide (rdV s (0, false) 1 ≤ 3) from rfl)
  generalize R5 s = r5 at *
  generalize p5 s = q5 at *
  generalize b5 s = c5 at *
  generalize I5 s = mi at *
  generalize pI s = pi at *
  generalize rdV s (0, false) 1 = x at *
  have c5 := HG.out.msg.cs.c5
  rw [HV.out] at c5
  by_cases h3 : 3 < x
  · rw [if_pos h3] at HR HQ
    rw [decide_eq_false (by omega)] at HC
    have PI := Lib.hid (fun V => PI.out x V)
    rw [decide_eq_false (by omega)] at PI
    go_wp2_with fail
    refine (PI.out _).mono ?_
    rintro e V' ⟨rfl, rfl⟩
    have HE := Lib.hid (HG.out.ends M.zero)
    go_wp2_with (first | (refine wpList_builtK rfl 43 _ rfl (M.cells M.zero) (by kernel_rfl) ?_) | (refine wpList_storeM (b := w.heap.size) (m := M.zero) (m' := M.zero) rfl _ _ rfl rfl rfl HG.out.res ?_))
    exact bodyPost_ret (v := .tuple #[.agg M.zero.cells, .bool false]) (results_pair rfl _ _ w.heap.size _ rfl (loadVarK shM HE.out.1 rfl) _ rfl) rfl ⟨by rw [HR.out, HC.out], by rw [HQ.out]; exact HE.out.2.1, HE.out.2.2⟩
  rw [if_neg h3] at HR HQ
  rw [decide_eq_true (by omega)] at HC
  have PI := Lib.hid (fun V => PI.out x V)
  rw [decide_eq_true (by omega)] at PI
  rcases (show x = 0 ∨ x = 1 ∨ x = 2 ∨ x = 3 by omega) with rfl | rfl | rfl | rfl
  · have HR := Lib.hid (show r5 = { mi with addr := lgT 0 (rdT s pi 0) } from HR.out)
    have HQ := Lib.hid (show q5 = nx s 0 pi from HQ.out)
    have PT := Lib.hid (fun V h => rdtext s pi 0 b 0 rfl hs HG.out.le V h)
    have PL := Lib.hid (fun V => lengthen_any 0 (rdT s pi 0) V)
    generalize rdT s pi 0 = tx at *
    generalize lgT 0 tx = ta at *
    go_wp2_with fail
    refine (PI.out _).mono ?_
    rintro e V' ⟨rfl, rfl⟩
    clear c5
    go_upto_region 8 with fail
    refine wp_region_held_drew (S := Ih (w.heap.size + 1) 0 0 0) (by kernel_rfl) (Ih.of HG.out.drew.msg HV.out (HG.out.drew.bel.tab hw0 hb0 HT.out).a0) (fun hS => ?_)
    have hG := HG.out.drew
    clear HG PI
    generalize World.drew _ = X0 at *
    refine H.tk (i := 0) (v := ?v0c0) ?h0c0 hS ?_
    case h0c0 => (intro w hw; go_simp; first | done | (with_reducible rfl))
    try simp only [Act.put, List.setIfInBounds_toArray, List.set_cons_zero, List.set_cons_succ]
    refine H.tk (i := 1) (v := .int .i64 0) ?h1c0 hS ?_
    case h1c0 => exact (fun w hw => by have c := hw.1; go_simp)
    try simp only [Act.put, List.setIfInBounds_toArray, List.set_cons_zero, List.set_cons_succ]
    refine H.tk (i := 2) (v := ?v2c0) ?h2c0 hS ?_
    case h2c0 => (intro w hw; go_simp; first | done | (with_reducible rfl))
    try simp only [Act.put, List.setIfInBounds_toArray, List.set_cons_zero, List.set_cons_succ]
    refine H.tk (i := 3) (v := ?v3c0) ?h3c0 hS ?_
    case h3c0 => (intro w hw; go_simp; first | done | (with_reducible rfl))
    try simp only [Act.put, List.setIfInBounds_toArray, List.set_cons_zero, List.set_cons_succ]
    refine H.tk (i := 4) (v := .int .i64 0) ?h4c0 hS ?_
    case h4c0 => exact (fun w hw => by have c := hw.1; go_simp)
    try simp only [Act.put, List.setIfInBounds_toArray, List.set_cons_zero, List.set_cons_succ]
    refine H.tk (i := 5) (v := .pointer (some ⟨0, 0, none⟩)) ?h5c0 hS ?_
    case h5c0 => exact (fun w hw => by go_simp)
    try simp only [Act.put, List.setIfInBounds_toArray, List.set_cons_zero, List.set_cons_succ]
    refine H.tk (i := 6) (v := .int .i64 0) ?h6c0 hS ?_
    case h6c0 => exact (fun w hw => by have c := hw.2; go_simp)
    try simp only [Act.put, List.setIfInBounds_toArray, List.set_cons_zero, List.set_cons_succ]
    refine wpAnyH_ready (rs := [7]) (by kernel_rfl) (by simp) ?_
    refine AllReadyH.cons rfl (fun K hK => ?_) AllReadyH.nil
    go_simp
    refine (PT.out _ hG.rd).mono ?_
    intro e V7 ht7
    have hG := hG.step ht7
    obtain ⟨rfl, ht7⟩ := ht7
    refine hK.out _ _ (Ih.of hG.msg HV.out (hG.bel.tab hw0 hb0 HT.out).a0) (fun hS7 => ?_)
    clear hK K hS ht7
    have hS := hS7
    clear hS7
    try simp only [Act.put, List.setIfInBounds_toArray, List.set_cons_zero, List.set_cons_succ]
    refine wpAnyH_ready (rs := [8]) (by kernel_rfl) (by simp) ?_
    refine AllReadyH.cons rfl (fun K hK => ?_) AllReadyH.nil
    go_simp
    refine (PL.out _).mono ?_
    rintro e V8 ⟨rfl, rfl⟩
    refine hK.out _ _ hS (fun _ => ?_)
    clear hK K
    try simp only [Act.put, List.setIfInBounds_toArray, List.set_cons_zero, List.set_cons_succ]
    refine H.tk (i := 9) (v := ?v9c0) ?h9c0 hS ?_
    case h9c0 => (intro w hw; go_simp; first | done | (with_reducible rfl))
    try simp only [Act.put, List.setIfInBounds_toArray, List.set_cons_zero, List.set_cons_succ]
    refine wpAnyH_ready (rs := [10]) (by kernel_rfl) (by simp) ?_
    refine AllReadyH.cons rfl (fun K hK => ?_) AllReadyH.nil
    have cx := hG.msg.cell 19 _ rfl
    have fx := hG.msg.frozen 19
    go_simp
    have hG := hG.set (i := 19) (v := .string ta) (m' := { mi with addr := ta }) rfl
    refine hK.out _ _ (Ih.of hG.msg HV.out (hG.bel.tab hw0 hb0 HT.out).a0) (fun hS' => ?_)
    try simp only [Act.put, List.setIfInBounds_toArray, List.set_cons_zero, List.set_cons_succ]
    refine wpAnyH_done (by kernel_rfl) ?_ _
    have HE := Lib.hid (hG.ends { mi with addr := ta })
    go_wp2_with (first | (refine wpList_loadM (b := w.heap.size + 1) (m := { mi with addr := ta }) rfl _ rfl rfl hG.msg ?_) | (refine wpList_storeM (b := w.heap.size) (m := M.zero) (m' := { mi with addr := ta }) rfl _ _ rfl rfl rfl hG.res ?_))
    exact bodyPost_ret (v := .tuple #[.agg (M.cells { mi with addr := ta }), .bool true]) (results_pair rfl _ _ w.heap.size _ rfl (loadVarK shM HE.out.1 rfl) _ rfl) rfl ⟨by rw [HR.out, HC.out], by rw [HQ.out]; exact HE.out.2.1, HE.out.2.2⟩
  · have HR := Lib.hid (show r5 = { mi with addr := lgT 1 (rdT s pi 4) } from HR.out)
    have HQ := Lib.hid (show q5 = nx s 4 pi from HQ.out)
    have PT := Lib.hid (fun V h => rdtext s pi 4 b 4 rfl hs HG.out.le V h)
    have PL := Lib.hid (fun V => lengthen_any 1 (rdT s pi 4) V)
    generalize rdT s pi 4 = tx at *
    generalize lgT 1 tx = ta at *
    go_wp2_with fail
    refine (PI.out _).mono ?_
    rintro e V' ⟨rfl, rfl⟩
    clear c5
    go_upto_region 8 with fail
    refine wp_region_held_drew (S := Ih (w.heap.size + 1) 1 1 4) (by kernel_rfl) (Ih.of HG.out.drew.msg HV.out (HG.out.drew.bel.tab hw0 hb0 HT.out).a1) (fun hS => ?_)
    have hG := HG.out.drew
    clear HG PI
    generalize World.drew _ = X0 at *
    refine H.tk (i := 0) (v := ?v0c1) ?h0c1 hS ?_
    case h0c1 => (intro w hw; go_simp; first | done | (with_reducible rfl))
    try simp only [Act.put, List.setIfInBounds_toArray, List.set_cons_zero, List.set_cons_succ]
    refine H.tk (i := 1) (v := .int .i64 1) ?h1c1 hS ?_
    case h1c1 => exact (fun w hw => by have c := hw.1; go_simp)
    try simp only [Act.put, List.setIfInBounds_toArray, List.set_cons_zero, List.set_cons_succ]
    refine H.tk (i := 2) (v := ?v2c1) ?h2c1 hS ?_
    case h2c1 => (intro w hw; go_simp; first | done | (with_reducible rfl))
    try simp only [Act.put, List.setIfInBounds_toArray, List.set_cons_zero, List.set_cons_succ]
    refine H.tk (i := 3) (v := ?v3c1) ?h3c1 hS ?_
    case h3c1 => (intro w hw; go_simp; first | done | (with_reducible rfl))
    try simp only [Act.put, List.setIfInBounds_toArray, List.set_cons_zero, List.set_cons_succ]
    refine H.tk (i := 4) (v := .int .i64 1) ?h4c1 hS ?_
    case h4c1 => exact (fun w hw => by have c := hw.1; go_simp)
    try simp only [Act.put, List.setIfInBounds_toArray, List.set_cons_zero, List.set_cons_succ]
    refine H.tk (i := 5) (v := .pointer (some ⟨0, 1, none⟩)) ?h5c1 hS ?_
    case h5c1 => exact (fun w hw => by go_simp)
    try simp only [Act.put, List.setIfInBounds_toArray, List.set_cons_zero, List.set_cons_succ]
    refine H.tk (i := 6) (v := .int .i64 4) ?h6c1 hS ?_
    case h6c1 => exact (fun w hw => by have c := hw.2; go_simp)
    try simp only [Act.put, List.setIfInBounds_toArray, List.set_cons_zero, List.set_cons_succ]
    refine wpAnyH_ready (rs := [7]) (by kernel_rfl) (by simp) ?_
    refine AllReadyH.cons rfl (fun K hK => ?_) AllReadyH.nil
    go_simp
    refine (PT.out _ hG.rd).mono ?_
    intro e V7 ht7
    have hG := hG.step ht7
    obtain ⟨rfl, ht7⟩ := ht7
    refine hK.out _ _ (Ih.of hG.msg HV.out (hG.bel.tab hw0 hb0 HT.out).a1) (fun hS7 => ?_)
    clear hK K hS ht7
    have hS := hS7
    clear hS7
    try simp only [Act.put, List.setIfInBounds_toArray, List.set_cons_zero, List.set_cons_succ]
    refine wpAnyH_ready (rs := [8]) (by kernel_rfl) (by simp) ?_
    refine AllReadyH.cons rfl (fun K hK => ?_) AllReadyH.nil
    go_simp
    refine (PL.out _).mono ?_
    rintro e V8 ⟨rfl, rfl⟩
    refine hK.out _ _ hS (fun _ => ?_)
    clear hK K
    try simp only [Act.put, List.setIfInBounds_toArray, List.set_cons_zero, List.set_cons_succ]
    refine H.tk (i := 9) (v := ?v9c1) ?h9c1 hS ?_
    case h9c1 => (intro w hw; go_simp; first | done | (with_reducible rfl))
    try simp only [Act.put, List.setIfInBounds_toArray, List.set_cons_zero, List.set_cons_succ]
    refine wpAnyH_ready (rs := [10]) (by kernel_rfl) (by simp) ?_
    refine AllReadyH.cons rfl (fun K hK => ?_) AllReadyH.nil
    have cx := hG.msg.cell 19 _ rfl
    have fx := hG.msg.frozen 19
    go_simp
    have hG := hG.set (i := 19) (v := .string ta) (m' := { mi with addr := ta }) rfl
    refine hK.out _ _ (Ih.of hG.msg HV.out (hG.bel.tab hw0 hb0 HT.out).a1) (fun hS' => ?_)
    try simp only [Act.put, List.setIfInBounds_toArray, List.set_cons_zero, List.set_cons_succ]
    refine wpAnyH_done (by kernel_rfl) ?_ _
    have HE := Lib.hid (hG.ends { mi with addr := ta })
    go_wp2_with (first | (refine wpList_loadM (b := w.heap.size + 1) (m := { mi with addr := ta }) rfl _ rfl rfl hG.msg ?_) | (refine wpList_storeM (b := w.heap.size) (m := M.zero) (m' := { mi with addr := ta }) rfl _ _ rfl rfl rfl hG.res ?_))
    exact bodyPost_ret (v := .tuple #[.agg (M.cells { mi with addr := ta }), .bool true]) (results_pair rfl _ _ w.heap.size _ rfl (loadVarK shM HE.out.1 rfl) _ rfl) rfl ⟨by rw [HR.out, HC.out], by rw [HQ.out]; exact HE.out.2.1, HE.out.2.2⟩
  · have HR := Lib.hid (show r5 = { mi with addr := lgT 2 (rdT s pi 16) } from HR.out)
    have HQ := Lib.hid (show q5 = nx s 16 pi from HQ.out)
    have PT := Lib.hid (fun V h => rdtext s pi 16 b 16 rfl hs HG.out.le V h)
    have PL := Lib.hid (fun V => lengthen_any 2 (rdT s pi 16) V)
    generalize rdT s pi 16 = tx at *
    generalize lgT 2 tx = ta at *
    go_wp2_with fail
    refine (PI.out _).mono ?_
    rintro e V' ⟨rfl, rfl⟩
    clear c5
    go_upto_region 8 with fail
    refine wp_region_held_drew (S := Ih (w.heap.size + 1) 2 2 16) (by kernel_rfl) (Ih.of HG.out.drew.msg HV.out (HG.out.drew.bel.tab hw0 hb0 HT.out).a2) (fun hS => ?_)
    have hG := HG.out.drew
    clear HG PI
    generalize World.drew _ = X0 at *
    refine H.tk (i := 0) (v := ?v0c2) ?h0c2 hS ?_
    case h0c2 => (intro w hw; go_simp; first | done | (with_reducible rfl))
    try simp only [Act.put, List.setIfInBounds_toArray, List.set_cons_zero, List.set_cons_succ]
    refine H.tk (i := 1) (v := .int .i64 2) ?h1c2 hS ?_
    case h1c2 => exact (fun w hw => by have c := hw.1; go_simp)
    try simp only [Act.put, List.setIfInBounds_toArray, List.set_cons_zero, List.set_cons_succ]
    refine H.tk (i := 2) (v := ?v2c2) ?h2c2 hS ?_
    case h2c2 => (intro w hw; go_simp; first | done | (with_reducible rfl))
    try simp only [Act.put, List.setIfInBounds_toArray, List.set_cons_zero, List.set_cons_succ]
    refine H.tk (i := 3) (v := ?v3c2) ?h3c2 hS ?_
    case h3c2 => (intro w hw; go_simp; first | done | (with_reducible rfl))
    try simp only [Act.put, List.setIfInBounds_toArray, List.set_cons_zero, List.set_cons_succ]
    refine H.tk (i := 4) (v := .int .i64 2) ?h4c2 hS ?_
    case h4c2 => exact (fun w hw => by have c := hw.1; go_simp)
    try simp only [Act.put, List.setIfInBounds_toArray, List.set_cons_zero, List.set_cons_succ]
    refine H.tk (i := 5) (v := .pointer (some ⟨0, 2, none⟩)) ?h5c2 hS ?_
    case h5c2 => exact (fun w hw => by go_simp)
    try simp only [Act.put, List.setIfInBounds_toArray, List.set_cons_zero, List.set_cons_succ]
    refine H.tk (i := 6) (v := .int .i64 16) ?h6c2 hS ?_
    case h6c2 => exact (fun w hw => by have c := hw.2; go_simp)
    try simp only [Act.put, List.setIfInBounds_toArray, List.set_cons_zero, List.set_cons_succ]
    refine wpAnyH_ready (rs := [7]) (by kernel_rfl) (by simp) ?_
    refine AllReadyH.cons rfl (fun K hK => ?_) AllReadyH.nil
    go_simp
    refine (PT.out _ hG.rd).mono ?_
    intro e V7 ht7
    have hG := hG.step ht7
    obtain ⟨rfl, ht7⟩ := ht7
    refine hK.out _ _ (Ih.of hG.msg HV.out (hG.bel.tab hw0 hb0 HT.out).a2) (fun hS7 => ?_)
    clear hK K hS ht7
    have hS := hS7
    clear hS7
    try simp only [Act.put, List.setIfInBounds_toArray, List.set_cons_zero, List.set_cons_succ]
    refine wpAnyH_ready (rs := [8]) (by kernel_rfl) (by simp) ?_
    refine AllReadyH.cons rfl (fun K hK => ?_) AllReadyH.nil
    go_simp
    refine (PL.out _).mono ?_
    rintro e V8 ⟨rfl, rfl⟩
    refine hK.out _ _ hS (fun _ => ?_)
    clear hK K
    try simp only [Act.put, List.setIfInBounds_toArray, List.set_cons_zero, List.set_cons_succ]
    refine H.tk (i := 9) (v := ?v9c2) ?h9c2 hS ?_
    case h9c2 => (intro w hw; go_simp; first | done | (with_reducible rfl))
    try simp only [Act.put, List.setIfInBounds_toArray, List.set_cons_zero, List.set_cons_succ]
    refine wpAnyH_ready (rs := [10]) (by kernel_rfl) (by simp) ?_
    refine AllReadyH.cons rfl (fun K hK => ?_) AllReadyH.nil
    have cx := hG.msg.cell 19 _ rfl
    have fx := hG.msg.frozen 19
    go_simp
    have hG := hG.set (i := 19) (v := .string ta) (m' := { mi with addr := ta }) rfl
    refine hK.out _ _ (Ih.of hG.msg HV.out (hG.bel.tab hw0 hb0 HT.out).a2) (fun hS' => ?_)
    try simp only [Act.put, List.setIfInBounds_toArray, List.set_cons_zero, List.set_cons_succ]
    refine wpAnyH_done (by kernel_rfl) ?_ _
    have HE := Lib.hid (hG.ends { mi with addr := ta })
    go_wp2_with (first | (refine wpList_loadM (b := w.heap.size + 1) (m := { mi with addr := ta }) rfl _ rfl rfl hG.msg ?_) | (refine wpList_storeM (b := w.heap.size) (m := M.zero) (m' := { mi with addr := ta }) rfl _ _ rfl rfl rfl hG.res ?_))
    exact bodyPost_ret (v := .tuple #[.agg (M.cells { mi with addr := ta }), .bool true]) (results_pair rfl _ _ w.heap.size _ rfl (loadVarK shM HE.out.1 rfl) _ rfl) rfl ⟨by rw [HR.out, HC.out], by rw [HQ.out]; exact HE.out.2.1, HE.out.2.2⟩
  · have HR := Lib.hid (show r5 = { mi with addr := lgT 3 (rdT s pi 8) } from HR.out)
    have HQ := Lib.hid (show q5 = nx s 8 pi from HQ.out)
    have PT := Lib.hid (fun V h => rdtext s pi 8 b 8 rfl hs HG.out.le V h)
    have PL := Lib.hid (fun V => lengthen_any 3 (rdT s pi 8) V)
    generalize rdT s pi 8 = tx at *
    generalize lgT 3 tx = ta at *
    go_wp2_with fail
    refine (PI.out _).mono ?_
    rintro e V' ⟨rfl, rfl⟩
    clear c5
    go_upto_region 8 with fail
    refine wp_region_held_drew (S := Ih (w.heap.size + 1) 3 3 8) (by kernel_rfl) (Ih.of HG.out.drew.msg HV.out (HG.out.drew.bel.tab hw0 hb0 HT.out).a3) (fun hS => ?_)
    have hG := HG.out.drew
    clear HG PI
    generalize World.drew _ = X0 at *
    refine H.tk (i := 0) (v := ?v0c3) ?h0c3 hS ?_
    case h0c3 => (intro w hw; go_simp; first | done | (with_reducible rfl))
    try simp only [Act.put, List.setIfInBounds_toArray, List.set_cons_zero, List.set_cons_succ]
    refine H.tk (i := 1) (v := .int .i64 3) ?h1c3 hS ?_
    case h1c3 => exact (fun w hw => by have c := hw.1; go_simp)
    try simp only [Act.put, List.setIfInBounds_toArray, List.set_cons_zero, List.set_cons_succ]
    refine H.tk (i := 2) (v := ?v2c3) ?h2c3 hS ?_
    case h2c3 => (intro w hw; go_simp; first | done | (with_reducible rfl))
    try simp only [Act.put, List.setIfInBounds_toArray, List.set_cons_zero, List.set_cons_succ]
    refine H.tk (i := 3) (v := ?v3c3) ?h3c3 hS ?_
    case h3c3 => (intro w hw; go_simp; first | done | (with_reducible rfl))
    try simp only [Act.put, List.setIfInBounds_toArray, List.set_cons_zero, List.set_cons_succ]
    refine H.tk (i := 4) (v := .int .i64 3) ?h4c3 hS ?_
    case h4c3 => exact (fun w hw => by have c := hw.1; go_simp)
    try simp only [Act.put, List.setIfInBounds_toArray, List.set_cons_zero, List.set_cons_succ]
    refine H.tk (i := 5) (v := .pointer (some ⟨0, 3, none⟩)) ?h5c3 hS ?_
    case h5c3 => exact (fun w hw => by go_simp)
    try simp only [Act.put, List.setIfInBounds_toArray, List.set_cons_zero, List.set_cons_succ]
    refine H.tk (i := 6) (v := .int .i64 8) ?h6c3 hS ?_
    case h6c3 => exact (fun w hw => by have c := hw.2; go_simp)
    try simp only [Act.put, List.setIfInBounds_toArray, List.set_cons_zero, List.set_cons_succ]
    refine wpAnyH_ready (rs := [7]) (by kernel_rfl) (by simp) ?_
    refine AllReadyH.cons rfl (fun K hK => ?_) AllReadyH.nil
    go_simp
    refine (PT.out _ hG.rd).mono ?_
    intro e V7 ht7
    have hG := hG.step ht7
    obtain ⟨rfl, ht7⟩ := ht7
    refine hK.out _ _ (Ih.of hG.msg HV.out (hG.bel.tab hw0 hb0 HT.out).a3) (fun hS7 => ?_)
    clear hK K hS ht7
    have hS := hS7
    clear hS7
    try simp only [Act.put, List.setIfInBounds_toArray, List.set_cons_zero, List.set_cons_succ]
    refine wpAnyH_ready (rs := [8]) (by kernel_rfl) (by simp) ?_
    refine AllReadyH.cons rfl (fun K hK => ?_) AllReadyH.nil
    go_simp
    refine (PL.out _).mono ?_
    rintro e V8 ⟨rfl, rfl⟩
    refine hK.out _ _ hS (fun _ => ?_)
    clear hK K
    try simp only [Act.put, List.setIfInBounds_toArray, List.set_cons_zero, List.set_cons_succ]
    refine H.tk (i := 9) (v := ?v9c3) ?h9c3 hS ?_
    case h9c3 => (intro w hw; go_simp; first | done | (with_reducible rfl))
    try simp only [Act.put, List.setIfInBounds_toArray, List.set_cons_zero, List.set_cons_succ]
    refine wpAnyH_ready (rs := [10]) (by kernel_rfl) (by simp) ?_
    refine AllReadyH.cons rfl (fun K hK => ?_) AllReadyH.nil
    have cx := hG.msg.cell 19 _ rfl
    have fx := hG.msg.frozen 19
    go_simp
    have hG := hG.set (i := 19) (v := .string ta) (m' := { mi with addr := ta }) rfl
    refine hK.out _ _ (Ih.of hG.msg HV.out (hG.bel.tab hw0 hb0 HT.out).a3) (fun hS' => ?_)
    try simp only [Act.put, List.setIfInBounds_toArray, List.set_cons_zero, List.set_cons_succ]
    refine wpAnyH_done (by kernel_rfl) ?_ _
    have HE := Lib.hid (hG.ends { mi with addr := ta })
    go_wp2_with (first | (refine wpList_loadM (b := w.heap.size + 1) (m := { mi with addr := ta }) rfl _ rfl rfl hG.msg ?_) | (refine wpList_storeM (b := w.heap.size) (m := M.zero) (m' := { mi with addr := ta }) rfl _ _ rfl rfl rfl hG.res ?_))
    exact bodyPost_ret (v := .tuple #[.agg (M.cells { mi with addr := ta }), .bool true]) (results_pair rfl _ _ w.heap.size _ rfl (loadVarK shM HE.out.1 rfl) _ rfl) rfl ⟨by rw [HR.out, HC.out], by rw [HQ.out]; exact HE.out.2.1, HE.out.2.2⟩
end Go.Proofs.YtpkmpinbpfblfaaGreatDoor.G4
namespace Go.Proofs.YtpkmpinbpfblfaaGreatDoor.G5
open Go.ChangeShapes Go.WideShapes Go.ChangeAt Go.RowKit
open Go.Proofs.YtpkmpinbpfblfaaGreatDoor.Ms
open Go.Proofs.YtpkmpinbpfblfaaGreatDoor.Box
open Go.Proofs.YtpkmpinbpfblfaaGreatDoor.S1
open Go.Proofs.YtpkmpinbpfblfaaGreatDoor.S5 (AnsS)
open Go.Proofs.YtpkmpinbpfblfaaGreatDoor.Nu
open Go.Proofs.YtpkmpinbpfblfaaGreatDoor.G1
open Go.Proofs.YtpkmpinbpfblfaaGreatDoor.G2
open Go.Proofs.YtpkmpinbpfblfaaGreatDoor.G4
open Go.Proofs.YtpkmpinbpfblfaaGreatDoor.An
open Go.Proofs.YtpkmpinbpfblfaaGreatDoor.Tc
open Go.Proofs.YtpkmpinbpfblfaaGreatDoor.Rg
open Go.Proofs.YtpkmpinbpfblfaaGreatDoor.F1 (bt bt_nn bt_lt num_one num_two)
open Go.Proofs.YtpkmpinbpfblfaaGreatDoor.Tl (cellsT)
open Go.Proofs.YtpkmpinbpfblfaaGreatDoor.Cur (numL new_any)
open Go.Proofs.YtpkmpinbpfblfaaGreatDoor.Bk (Bk Sh shC cur cur_one loadVarK wpList_builtK wpList_loadK wpList_storeK run_loadK alloc_size results_one results_pair)
open Go.Proofs.YtpkmpinbpfblfaaGreatDoor.Hs
set_option linter.unusedVariables false
set_option maxRecDepth 100000
set_option maxRecDepth 100000
/-- What fields answers of a type: the message, whether there is one, the place. -/
def Is (t : Int) (s : ByteArray) (X : M) (c : Bool) (p : Nat × Bool) : Prop := (s.size < szF t s → p.2 = true) ∧ (¬ s.size < szF t s → p = (szF t s, false) ∧ (noF t s → c = false) ∧ (¬ noF t s → c = true ∧ X = hdF t s))
theorem one {s : ByteArray} (h : 2 ≤ s.size) : nx s 2 (0, false) = (2, false) := nx_yes (a := 0) (by omega)
theorem two {s : ByteArray} (h : 4 ≤ s.size) : nx s 2 (2, false) = (4, false) := nx_yes (a := 2) (by omega)
theorem three {s : ByteArray} (h : 6 ≤ s.size) : nx s 2 (4, false) = (6, false) := nx_yes (a := 4) (by omega)
theorem one1 {s : ByteArray} (h : 1 ≤ s.size) : nx s 1 (0, false) = (1, false) := nx_yes (a := 0) (by omega)
theorem two1 {s : ByteArray} (h : 2 ≤ s.size) : nx s 1 (1, false) = (2, false) := nx_yes (a := 1) (by omega)
theorem steps_no {s : ByteArray} (h : s.size < 6) : (nx s 2 (nx s 2 (nx s 2 (0, false)))).2 = true := by
  by_cases h2 : 2 ≤ s.size
  · rw [one h2]
    by_cases h4 : 4 ≤ s.size
    · rw [two h4, nx_no (by omega)]
    · rw [nx_no (s := s) (a := 2) (by omega)]; exact nx_bad rfl
  · rw [nx_no (s := s) (a := 0) (by omega)]; exact nx_bad (nx_bad rfl)
theorem steps_yes {s : ByteArray} (h : 6 ≤ s.size) : nx s 2 (nx s 2 (nx s 2 (0, false))) = (6, false) := by rw [one (by omega), two (by omega), three h]
theorem val {s : ByteArray} {a : Nat} (h : a + 2 ≤ s.size) : rdV s (a, false) 2 = num2 s a := v_yes h
theorem is2 (s : ByteArray) : Is 2 s (R2 s) true (nx s 2 (nx s 2 (nx s 2 (0, false)))) := by
  refine ⟨fun h => steps_no h, fun h => ?_⟩
  have h6 : 6 ≤ s.size := by have : ¬ s.size < 6 := h; omega
  refine ⟨steps_yes h6, fun k => by have := k.1; omega, fun _ => ⟨rfl, ?_⟩⟩
  show R2 s = hd2 s
  unfold R2 hd2
  rw [one (by omega), two (by omega), val (by omega), val (by omega)]
theorem is3 (s : ByteArray) : Is 3 s { M.zero with kind := 8, nonce := rdV s (0, false) 2 } true (nx s 2 (0, false)) := by
  refine ⟨fun h => by rw [nx_no (s := s) (a := 0) (by have : s.size < 2 := h; omega)], fun h => ?_⟩
  have h2 : 2 ≤ s.size := by have : ¬ s.size < 2 := h; omega
  refine ⟨one h2, fun k => by have := k.1; omega, fun _ => ⟨rfl, ?_⟩⟩
  rw [val (by omega)]
  rfl
theorem is4 (s : ByteArray) : Is 4 s (R4 s) true (nx s 2 (nx s 2 (nx s 2 (0, false)))) := by
  refine ⟨fun h => steps_no h, fun h => ?_⟩
  have h6 : 6 ≤ s.size := by have : ¬ s.size < 6 := h; omega
  refine ⟨steps_yes h6, fun k => by have := k.1; omega, fun _ => ⟨rfl, ?_⟩⟩
  show R4 s = hd4 s
  have e : rdV s (0, false) 2 = 256 * bt s 0 + bt s 1 := (val (a := 0) (by omega)).trans (num_two s 0 (by omega))
  have b1 := bt_nn s 1
  have b2 := bt_lt s 1
  unfold R4 hd4
  rw [one (by omega), two (by omega), val (a := 2) (by omega), val (a := 4) (by omega), e, show (256 * bt s 0 + bt s 1) / 32768 = bt s 0 / 128 by omega]
theorem pI_no {s : ByteArray} (h : s.size < 6) : (pI s).2 = true := by
  unfold pI
  by_cases h1 : 1 ≤ s.size
  · rw [one1 h1]
    by_cases h2 : 2 ≤ s.size
    · rw [two1 h2]
      by_cases h4 : 4 ≤ s.size
      · rw [two h4, nx_no (by omega)]
      · rw [nx_no (s := s) (a := 2) (by omega)]; exact nx_bad rfl
    · rw [nx_no (s := s) (a := 1) (by omega)]; exact nx_bad (nx_bad rfl)
  · rw [nx_no (s := s) (a := 0) (by omega)]; exact nx_bad (nx_bad (nx_bad rfl))
theorem pI_yes {s : ByteArray} (h : 6 ≤ s.size) : pI s = (6, false) := by unfold pI; rw [one1 (by omega), two1 (by omega), two (by omega), three h]
theorem is5 (s : ByteArray) : Is 5 s (R5 s) (b5 s) (p5 s) := by
  by_cases h6 : 6 ≤ s.size
  rotate_left
  · refine ⟨fun _ => ?_, fun h => absurd (show s.size < 6 + sizeA (bt s 0) by omega) h⟩
    have hp := pI_no (s := s) (by omega)
    unfold p5
    split
    · exact hp
    · exact nx_bad hp
  have hx : rdV s (0, false) 1 = bt s 0 := (v_yes (a := 0) (k := 1) (by omega)).trans (num_one s 0 (by omega))
  have hp := pI_yes h6
  have hi : I5 s = { M.zero with kind := 10, ae := bt s 0, cost := num2 s 2, interval := num2 s 4 } := by
    unfold I5
    rw [hx, one1 (by omega), two1 (by omega), two (by omega), val (a := 2) (by omega), val (a := 4) (by omega)]
  by_cases h3 : 3 < bt s 0
  · have hz : szF 5 s = 6 := by show 6 + sizeA (bt s 0) = 6; rw [size_far h3]
    refine ⟨fun h => absurd (show s.size < 6 by rw [← hz]; exact h) (by omega), fun _ => ⟨?_, fun _ => ?_, fun k => absurd ⟨rfl, h3⟩ k⟩⟩
    · unfold p5; rw [hx, if_pos h3, hp, hz]
    · unfold b5; rw [hx]; exact decide_eq_false (by omega)
  have e5 : p5 s = nx s (sizeA (bt s 0)) (6, false) := by unfold p5; rw [hx, if_neg h3, hp]
  refine ⟨fun h => ?_, fun h => ⟨?_, fun k => absurd k.2 h3, fun _ => ⟨?_, ?_⟩⟩⟩
  · rw [e5, nx_no (by have : s.size < 6 + sizeA (bt s 0) := h; omega)]
  · rw [e5, nx_yes (by have : ¬ s.size < 6 + sizeA (bt s 0) := h; omega)]
    rfl
  · unfold b5; rw [hx]; exact decide_eq_true (by omega)
  · show R5 s = hd5 s
    unfold R5 hd5
    rw [hx, if_neg h3, hp, hi, t_yes (by have : ¬ s.size < 6 + sizeA (bt s 0) := h; omega)]
/-- What fields leaves. -/
def AnsR (t : Int) (s : ByteArray) (b : Nat) (w : World) (e : Ending) (w' : World) : Prop := ∃ X c p, Is t s X c p ∧ TookB X c s p b w e w'
theorem took_row {v : Value} {s : ByteArray} {p : Nat × Bool} {b : Nat} {w W w1 : World} {e : Ending} {X : M} {c : Bool} (hk : Took v s p b W e w1) (hw : Below w.heap.size w W) (hz : W.heap.size = w.heap.size + 1) (hb : b < w.heap.size) :
    TookB X c s p b w (.returned (.tuple #[.agg X.cells, .bool c])) (w1.setRow w.heap.size X.cells) :=
  ⟨rfl, hk.2.1.row (by omega) _, ((Bel.of hw).trans (hk.2.2.mono (by omega))).row (Nat.le_refl _) _⟩
set_option maxHeartbeats 3200000 in
theorem fields_any (t : Int) (s : ByteArray) (b : Nat) (h2 : 2 ≤ t) (h5 : t ≤ 5) (hs : s.size ≤ maxLen) (w : World) (hb : Bk 75 w b (cu s (0, false))) (ht : Tab w) (hb0 : 2 < b) :
    Calls Tryz.prog 39 #[.pointer (some ⟨b, 0, none⟩), .int .i64 t] w (AnsR t s b w) := by
  rcases (show t = 2 ∨ t = 3 ∨ t = 4 ∨ t = 5 by omega) with rfl | rfl | rfl | rfl
  · go_enter Tryz.func39, Tryz.ntmps39
    go_upto_region 1 with fail
    change Code.wp _ _ _ _ (w.alloc (.cells M.zero.cells 43))
    have hz := alloc_size w (.cells M.zero.cells 43)
    have HB := Lib.hid (balloc (Below.refl _ w) (.cells M.zero.cells 43))
    have HX := Lib.hid (Bx.new w M.zero)
    have HR := Lib.hid (hb.old (.cells M.zero.cells 43))
    have hlt := hb.lt
    clear hb
    generalize w.alloc (.cells M.zero.cells 43) = W at *
    go_wp2_with fail
    refine (ack_any s b hs _ HR.out).mono ?_
    intro e w1 hk
    have X1 := Lib.hid (hk.2.2.bx (by omega) HX.out)
    have HT := Lib.hid (took_row (X := R2 s) (c := true) hk HB.out hz hlt)
    have HI := Lib.hid (is2 s)
    obtain ⟨rfl, hk⟩ := hk
    clear hk HX HR HB
    generalize R2 s = x at *
    go_wp2_with (first | (refine wpList_storeM (b := w.heap.size) (m := M.zero) (m' := x) rfl _ _ rfl rfl rfl X1.out ?_))
    exact bodyPost_ret (v := .tuple #[.agg (M.cells x), .bool true]) (results_pair rfl _ _ w.heap.size _ rfl (loadVarK shM (X1.out.put (m' := x)) rfl) _ rfl) rfl ⟨_, _, _, HI.out, HT.out⟩
  · go_enter Tryz.func39, Tryz.ntmps39
    go_upto_region 1 with fail
    change Code.wp _ _ _ _ (w.alloc (.cells M.zero.cells 43))
    have hz := alloc_size w (.cells M.zero.cells 43)
    have HB := Lib.hid (balloc (Below.refl _ w) (.cells M.zero.cells 43))
    have HX := Lib.hid (Bx.new w M.zero)
    have HR := Lib.hid (hb.old (.cells M.zero.cells 43))
    have hlt := hb.lt
    clear hb
    generalize w.alloc (.cells M.zero.cells 43) = W at *
    go_wp2_with fail
    refine (rdnum s (0, false) 2 b 2 rfl hs (Nat.zero_le _) (by omega) (by omega) _ HR.out).mono ?_
    intro e w1 hk
    have X1 := Lib.hid (hk.2.2.bx (by omega) HX.out)
    have HT := Lib.hid (took_row (X := ({ M.zero with kind := 8, nonce := rdV s (0, false) 2 } : M)) (c := true) hk HB.out hz hlt)
    have HI := Lib.hid (is3 s)
    obtain ⟨rfl, hk⟩ := hk
    clear hk HX HR HB
    generalize rdV s (0, false) 2 = v at *
    go_wp2_with (first | (refine wpList_builtK rfl 43 _ rfl (M.cells { M.zero with kind := 8, nonce := v }) (by kernel_rfl) ?_) | (refine wpList_storeM (b := w.heap.size) (m := M.zero) (m' := { M.zero with kind := 8, nonce := v }) rfl _ _ rfl rfl rfl X1.out ?_))
    exact bodyPost_ret (v := .tuple #[.agg (M.cells { M.zero with kind := 8, nonce := v }), .bool true]) (results_pair rfl _ _ w.heap.size _ rfl (loadVarK shM (X1.out.put (m' := { M.zero with kind := 8, nonce := v })) rfl) _ rfl) rfl ⟨_, _, _, HI.out, HT.out⟩
  · go_enter Tryz.func39, Tryz.ntmps39
    go_upto_region 1 with fail
    change Code.wp _ _ _ _ (w.alloc (.cells M.zero.cells 43))
    have hz := alloc_size w (.cells M.zero.cells 43)
    have HB := Lib.hid (balloc (Below.refl _ w) (.cells M.zero.cells 43))
    have HX := Lib.hid (Bx.new w M.zero)
    have HR := Lib.hid (hb.old (.cells M.zero.cells 43))
    have hlt := hb.lt
    clear hb
    generalize w.alloc (.cells M.zero.cells 43) = W at *
    go_wp2_with fail
    refine (hello_any s b hs _ HR.out).mono ?_
    intro e w1 hk
    have X1 := Lib.hid (hk.2.2.bx (by omega) HX.out)
    have HT := Lib.hid (took_row (X := R4 s) (c := true) hk HB.out hz hlt)
    have HI := Lib.hid (is4 s)
    obtain ⟨rfl, hk⟩ := hk
    clear hk HX HR HB
    generalize R4 s = x at *
    go_wp2_with (first | (refine wpList_storeM (b := w.heap.size) (m := M.zero) (m' := x) rfl _ _ rfl rfl rfl X1.out ?_))
    exact bodyPost_ret (v := .tuple #[.agg (M.cells x), .bool true]) (results_pair rfl _ _ w.heap.size _ rfl (loadVarK shM (X1.out.put (m' := x)) rfl) _ rfl) rfl ⟨_, _, _, HI.out, HT.out⟩
  · have HM := Lib.hid ht
    clear ht
    go_enter Tryz.func39, Tryz.ntmps39
    go_upto_region 1 with fail
    change Code.wp _ _ _ _ (w.alloc (.cells M.zero.cells 43))
    have hz := alloc_size w (.cells M.zero.cells 43)
    have HB := Lib.hid (balloc (Below.refl _ w) (.cells M.zero.cells 43))
    have HX := Lib.hid (Bx.new w M.zero)
    have HR := Lib.hid (hb.old (.cells M.zero.cells 43))
    have hlt := hb.lt
    clear hb
    generalize w.alloc (.cells M.zero.cells 43) = W at *
    go_wp2_with fail
    refine (ihu_any s b hs _ HR.out (HM.out.below HB.out) hb0).mono ?_
    intro e w1 hk
    have X1 := Lib.hid (hk.2.2.bx (by omega) HX.out)
    have HT := Lib.hid (show TookB (R5 s) (b5 s) s _ b w _ _ from took_row (X := R5 s) (c := b5 s) (v := .tuple #[.agg (M.cells (R5 s)), .bool (b5 s)]) ⟨hk.1, hk.2.1, hk.2.2⟩ HB.out hz hlt)
    have HI := Lib.hid (is5 s)
    obtain ⟨rfl, hk⟩ := hk
    clear hk HX HR HB
    generalize R5 s = x at *
    generalize b5 s = c at *
    go_wp2_with (first | (refine wpList_storeM (b := w.heap.size) (m := M.zero) (m' := x) rfl _ _ rfl rfl rfl X1.out ?_))
    exact bodyPost_ret (v := .tuple #[.agg (M.cells x), .bool c]) (results_pair rfl _ _ w.heap.size _ rfl (loadVarK shM (X1.out.put (m' := x)) rfl) _ rfl) rfl ⟨_, _, _, HI.out, HT.out⟩
end Go.Proofs.YtpkmpinbpfblfaaGreatDoor.G5
namespace Go.Proofs.YtpkmpinbpfblfaaGreatDoor.G6
open Go.ChangeShapes Go.WideShapes Go.ChangeAt Go.RowKit
open Go.Proofs.YtpkmpinbpfblfaaGreatDoor.Ms
open Go.Proofs.YtpkmpinbpfblfaaGreatDoor.Box
open Go.Proofs.YtpkmpinbpfblfaaGreatDoor.S1
open Go.Proofs.YtpkmpinbpfblfaaGreatDoor.S5 (AnsS)
open Go.Proofs.YtpkmpinbpfblfaaGreatDoor.G1
open Go.Proofs.YtpkmpinbpfblfaaGreatDoor.G4
open Go.Proofs.YtpkmpinbpfblfaaGreatDoor.G5
open Go.Proofs.YtpkmpinbpfblfaaGreatDoor.An
open Go.Proofs.YtpkmpinbpfblfaaGreatDoor.Tc
open Go.Proofs.YtpkmpinbpfblfaaGreatDoor.Rg
open Go.Proofs.YtpkmpinbpfblfaaGreatDoor.Tl (cellsT)
open Go.Proofs.YtpkmpinbpfblfaaGreatDoor.Cur (new_any)
open Go.Proofs.YtpkmpinbpfblfaaGreatDoor.Bk (Bk wpList_builtK alloc_size)
open Go.Proofs.YtpkmpinbpfblfaaGreatDoor.Hs
set_option linter.unusedVariables false
set_option maxRecDepth 100000
set_option maxRecDepth 100000
theorem lst_cell {B : Nat} {w : World} {v u : Value} {l : List El} {p : Addr} (h : Sx.Lst B w v l) (hg : p.block < B) : Sx.Lst B (w.setCell p u) v l := by
  refine ⟨h.1, ?_⟩
  rcases h.2 with h | ⟨k, cap, cur, a, b, c, d⟩
  · exact .inl h
  · exact .inr ⟨k, cap, cur, a, b, (heap_setCell_other w p k u (by omega)).trans c, d⟩
set_option maxHeartbeats 6400000 in
theorem get_own (t a : Int) (s : ByteArray) (w : World) (h2 : 2 ≤ t) (h5 : t ≤ 5) (hs : s.size ≤ 100000) (ht : Tab w) : Calls Tryz.prog 25 #[.agg (cellsT (a, (s, t)))] w (AnsB (outF t s) w) := by
  have hm : s.size ≤ maxLen := by unfold maxLen; omega
  have PF := Lib.hid (fun b V h T q => fields_any t s b h2 h5 hm V h T q)
  have PR := Lib.hid (fun b (h : szF t s ≤ s.size) V r => rest_any s (szF t s) b hm h V r)
  have PS := Lib.hid (fun V => S5.get_own (s.extract (szF t s) s.size) V (by simp; omega))
  have PN := Lib.hid (fun V => new_any s V hm)
  have h0 := ht.pos
  go_enter Tryz.func25, Tryz.ntmps25
  go_upto_region 1 with fail
  change Code.wp _ _ _ _ ((w.alloc (.cells (cellsT (a, (s, t))) 31)).alloc (.cells M.zero.cells 43))
  have hz := alloc_size w (.cells (cellsT (a, (s, t))) 31)
  have X0 := Bx.new (w.alloc (.cells (cellsT (a, (s, t))) 31)) M.zero
  rw [hz] at X0
  have X0 := Lib.hid X0
  have T0 := Lib.hid ((Bk.Bk.new 31 w (cellsT (a, (s, t)))).old (.cells M.zero.cells 43))
  have HB := Lib.hid (balloc (balloc (Below.refl _ w) (.cells (cellsT (a, (s, t))) 31)) (.cells M.zero.cells 43))
  have HT := Lib.hid (ht.below HB.out)
  clear hz ht
  generalize (w.alloc (.cells (cellsT (a, (s, t))) 31)).alloc (.cells M.zero.cells 43) = W at *
  have c2 := T0.out.cell 2 (.string s) rfl
  go_wp2_with fail
  refine (PN.out _).mono ?_
  rintro e w1 ⟨rfl, hb⟩
  have X0 := Lib.hid (X0.out.below hb)
  have T0 := Lib.hid (T0.out.below hb)
  have HT := Lib.hid (HT.out.below hb)
  have HB := Lib.hid (bcall HB.out hb)
  clear hb c2 PN
  go_upto_region 2 with fail
  change Code.wp _ _ _ _ (w1.alloc (.cells (cu s (0, false)) 75))
  have bel := balloc (Below.refl w1.heap.size w1) (.cells (cu s (0, false)) 75)
  have hlt := X0.out.lt
  have X0 := Lib.hid (X0.out.below bel)
  have T0 := Lib.hid (T0.out.below bel)
  have HT := Lib.hid (HT.out.below bel)
  have HB := Lib.hid (bcall HB.out bel)
  have R0 := Lib.hid (Bk.Bk.new 75 w1 (cu s (0, false)))
  clear bel
  generalize w1.alloc (.cells (cu s (0, false)) 75) = W1 at *
  generalize w1.heap.size = b at *
  have c0 := T0.out.cell 0 (.int .i64 t) rfl
  go_wp2_with fail
  refine (PF.out b _ R0.out HT.out (by omega)).mono ?_
  rintro e w2 ⟨X, c, p, hI, rfl, hr, hbel⟩
  have X0 := Lib.hid (hbel.bx (by omega) X0.out)
  have R0 := Lib.hid hr
  have hW1 := HB.out.size
  have hW2 := X0.out.lt
  have HB := Lib.hid (HB.out.trans (hbel.to (C := w.heap.size) (by omega) (by omega)))
  clear hr hbel c0 T0 HT PF
  go_upto_region 3 with (refine wpList_storeM (b := w2.heap.size) (m := M.zero) (m' := X) rfl _ _ rfl rfl rfl (Bx.new w2 M.zero) ?_)
  change Code.wp _ _ _ _ ((w2.alloc (.cells M.zero.cells 43)).setRow w2.heap.size X.cells)
  rw [World.setRow_alloc_new]
  have bel := balloc (Below.refl w2.heap.size w2) (.cells X.cells 43)
  have hlt2 := R0.out.lt
  have X0 := Lib.hid (X0.out.below bel)
  have R0 := Lib.hid (R0.out.below bel)
  have HB := Lib.hid (bcall HB.out bel)
  have XM := Lib.hid (Bx.new w2 X)
  clear bel
  generalize w2.alloc (.cells X.cells 43) = V at *
  generalize w2.heap.size = g at *
  obtain ⟨q, y⟩ := p
  have c3 := R0.out.cell 3 (.bool y) rfl
  by_cases h : s.size < szF t s
  · obtain rfl : y = true := hI.1 h
    have HY := Lib.hid (out_short h)
    clear PR PS hI
    go_wp2_with (first | (refine wpList_builtK rfl 43 _ rfl (M.cells M.zero) (by kernel_rfl) ?_) | (refine wpList_storeM (b := w.heap.size + 1) (m := M.zero) (m' := M.zero) rfl _ _ rfl rfl rfl X0.out ?_))
    exact bodyPost_ret (v := .tuple #[.agg M.zero.cells, .bool false, .int .i64 2]) (ret3 rfl _ _ (w.heap.size + 1) M.zero rfl (X0.out.put (m' := M.zero)) (.bool false) rfl (.int .i64 2) rfl) rfl (AnsB.no HY.out (Box.below_setRow HB.out (by omega) _))
  obtain ⟨hp, hn, hk⟩ := hI.2 h
  obtain ⟨rfl, rfl⟩ : q = szF t s ∧ y = false := by simpa using hp
  clear hI hp
  by_cases k : noF t s
  · obtain rfl := hn k
    have HY := Lib.hid (out_none h k)
    clear PR PS hk hn
    go_wp2_with (first | (refine wpList_builtK rfl 43 _ rfl (M.cells M.zero) (by kernel_rfl) ?_) | (refine wpList_storeM (b := w.heap.size + 1) (m := M.zero) (m' := M.zero) rfl _ _ rfl rfl rfl X0.out ?_))
    exact bodyPost_ret (v := .tuple #[.agg M.zero.cells, .bool false, .int .i64 0]) (ret3 rfl _ _ (w.heap.size + 1) M.zero rfl (X0.out.put (m' := M.zero)) (.bool false) rfl (.int .i64 0) rfl) rfl (AnsB.no HY.out (Box.below_setRow HB.out (by omega) _))
  obtain ⟨rfl, rfl⟩ := hk k
  have HX := Lib.hid (show (hdF t s).la = (hdF t s).la from rfl)
  have PR := Lib.hid (PR.out b (by omega))
  clear hn hk
  obtain ⟨⟨l, kn, er⟩, ho⟩ : ∃ p, outS (s.extract (szF t s) s.size) = p := ⟨_, rfl⟩
  rw [ho] at PS
  go_wp2_with fail
  refine (PR.out _ R0.out).mono ?_
  rintro e w3 ⟨rfl, hr, hbel⟩
  have X0 := Lib.hid (hbel.bx (by omega) X0.out)
  have XM := Lib.hid (hbel.bx (by omega) XM.out)
  have hsz := HB.out.size
  have HB := Lib.hid (HB.out.trans (hbel.to (C := w.heap.size) (by omega) (by omega)))
  clear hr hbel R0 c3 PR
  have hg := XM.out.lt
  go_wp2_with fail
  refine (PS.out _).mono ?_
  rintro e w4 ⟨sa, sc, rfl, hl, hb⟩
  have X0 := Lib.hid (X0.out.below hb)
  have XM := Lib.hid (XM.out.below hb)
  have HB := Lib.hid (bcall HB.out hb)
  have HL := Lib.hid hl
  have hs3 := HB.out.size
  clear hb hl PS
  simp only [] at HL
  have hsw : w.heap.size ≤ w3.heap.size := by omega
  generalize w3.heap.size = z at *
  by_cases he : er = 0
  rotate_left
  · have HY := Lib.hid (out_sub h k ho (fun x => he x.1))
    have e1 : (er == 0) = false := by simpa using he
    have e2 : (er != 0) = true := by rw [bne, e1]; rfl
    clear he ho HX XM
    generalize hdF t s = x at *
    go_wp2_with (first | (refine wpList_builtK rfl 43 _ rfl (M.cells M.zero) (by kernel_rfl) ?_) | (refine wpList_storeM (b := w.heap.size + 1) (m := M.zero) (m' := M.zero) rfl _ _ rfl rfl rfl X0.out ?_))
    exact bodyPost_ret (v := .tuple #[.agg M.zero.cells, .bool false, .int .i64 er]) (ret3 rfl _ _ (w.heap.size + 1) M.zero rfl (X0.out.put (m' := M.zero)) (.bool false) rfl (.int .i64 er) rfl) rfl (AnsB.no HY.out (Box.below_setRow HB.out (by omega) _))
  subst he
  cases kn with
  | false =>
    have HY := Lib.hid (out_sub h k ho (fun x => by cases x.2))
    clear ho HX XM
    generalize hdF t s = x at *
    go_wp2_with (first | (refine wpList_builtK rfl 43 _ rfl (M.cells M.zero) (by kernel_rfl) ?_) | (refine wpList_storeM (b := w.heap.size + 1) (m := M.zero) (m' := M.zero) rfl _ _ rfl rfl rfl X0.out ?_))
    exact bodyPost_ret (v := .tuple #[.agg M.zero.cells, .bool false, .int .i64 0]) (ret3 rfl _ _ (w.heap.size + 1) M.zero rfl (X0.out.put (m' := M.zero)) (.bool false) rfl (.int .i64 0) rfl) rfl (AnsB.no HY.out (Box.below_setRow HB.out (by omega) _))
  | true =>
    have HY := Lib.hid (out_yes h k ho)
    clear ho HX h k
    generalize hdF t s = x at *
    have d := XM.out.cs.c24
    have fd := XM.out.frozen 24
    go_upto_region 11 with fail
    have XM := Lib.hid (XM.out.set (i := 24) (v := .slice sa l.length sc) (m' := { x with sa := sa, sl := l, sc := sc }) rfl)
    have X0 := Lib.hid (X0.out.off (p := ⟨g, 24, none⟩) (by show w.heap.size + 1 ≠ g; omega) (.slice sa l.length sc))
    have HB := Lib.hid (HB.out.setCell (p := ⟨g, 24, none⟩) (by show w.heap.size ≤ g; omega) (.slice sa l.length sc))
    have HL := Lib.hid (lst_cell (u := .slice sa l.length sc) (p := ⟨g, 24, none⟩) HL.out hg)
    clear d fd
    generalize w4.setCell ⟨g, 24, none⟩ (.slice sa l.length sc) = V5 at *
    go_wp2_with (first | (refine wpList_loadM (b := g) (m := { x with sa := sa, sl := l, sc := sc }) rfl _ rfl rfl XM.out ?_) | (refine wpList_storeM (b := w.heap.size + 1) (m := M.zero) (m' := { x with sa := sa, sl := l, sc := sc }) rfl _ _ rfl rfl rfl X0.out ?_))
    exact bodyPost_ret (v := .tuple #[.agg (M.cells { x with sa := sa, sl := l, sc := sc }), .bool true, .int .i64 0]) (ret3 rfl _ _ (w.heap.size + 1) { x with sa := sa, sl := l, sc := sc } rfl (X0.out.put (m' := { x with sa := sa, sl := l, sc := sc })) (.bool true) rfl (.int .i64 0) rfl) rfl (AnsB.subs HY.out (lst_under HL.out (by omega) _) hsw (Box.below_setRow HB.out (by omega) _))
end Go.Proofs.YtpkmpinbpfblfaaGreatDoor.G6
