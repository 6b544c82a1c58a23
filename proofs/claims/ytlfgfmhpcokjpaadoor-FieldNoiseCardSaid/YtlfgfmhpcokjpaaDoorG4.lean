/-
  The program's calls on the reader: a number, a text, the rest, the fields of each type. Conditions: at most 2^20 bytes; the variable has what it is laid with.
-/
import Derived.Test.YtlfgfmhpcokjpaaDoorG2
namespace Go.Proofs.YtlfgfmhpcokjpaaDoor.G4
open Go.ChangeShapes Go.WideShapes Go.ChangeAt Go.RowKit
open Go.Proofs.YtlfgfmhpcokjpaaDoor.Ms
open Go.Proofs.YtlfgfmhpcokjpaaDoor.Box
open Go.Proofs.YtlfgfmhpcokjpaaDoor.Nu
open Go.Proofs.YtlfgfmhpcokjpaaDoor.G1
open Go.Proofs.YtlfgfmhpcokjpaaDoor.G2
open Go.Proofs.YtlfgfmhpcokjpaaDoor.An
open Go.Proofs.YtlfgfmhpcokjpaaDoor.Tb
open Go.Proofs.YtlfgfmhpcokjpaaDoor.F1 (bt bt_nn bt_lt num_one num_two)
open Go.Proofs.YtlfgfmhpcokjpaaDoor.Cur (numL num_yes num_no text_yes text_no new_any left_ok hasB)
open Go.Proofs.YtlfgfmhpcokjpaaDoor.Bk (Bk Sh shC cur cur_one loadVarK wpList_builtK wpList_loadK wpList_storeK run_loadK alloc_size results_one results_pair)
open Go.Proofs.YtlfgfmhpcokjpaaDoor.Hs
set_option linter.unusedVariables false
set_option maxRecDepth 100000
/-- May k bytes be taken at a place? -/
def okR (s : ByteArray) (p : Nat × Bool) (k : Nat) : Bool := !p.2 && decide (p.1 + k ≤ s.size)
/-- The place behind; the number, the text there. -/
def nx (s : ByteArray) (k : Nat) (p : Nat × Bool) : Nat × Bool := if okR s p k then (p.1 + k, false) else (p.1, true)
def rdV (s : ByteArray) (p : Nat × Bool) (k : Nat) : Int := if okR s p k then ((numL ((s.data.toList.drop p.1).take k) : Nat) : Int) else 0
def rdT (s : ByteArray) (p : Nat × Bool) (k : Nat) : ByteArray := if okR s p k then s.extract p.1 (p.1 + k) else ⟨#[]⟩
theorem ok_yes {s : ByteArray} {a k : Nat} (h : a + k ≤ s.size) : okR s (a, false) k = true := by unfold okR; simp [h]
theorem ok_no {s : ByteArray} {a k : Nat} (h : ¬ a + k ≤ s.size) : okR s (a, false) k = false := by unfold okR; simp; omega
theorem ok_bad (s : ByteArray) (a k : Nat) : okR s (a, true) k = false := rfl
theorem ok_cases {s : ByteArray} {a k : Nat} {y : Bool} (h : okR s (a, y) k = true) : y = false ∧ a + k ≤ s.size := by unfold okR at h; simpa using h
theorem nx_yes {s : ByteArray} {a k : Nat} (h : a + k ≤ s.size) : nx s k (a, false) = (a + k, false) := by unfold nx; rw [if_pos (ok_yes h)]
theorem nx_no {s : ByteArray} {a k : Nat} (h : ¬ a + k ≤ s.size) : nx s k (a, false) = (a, true) := by unfold nx; rw [ok_no h]; rfl
theorem nx_bad {s : ByteArray} {k : Nat} {p : Nat × Bool} (h : p.2 = true) : (nx s k p).2 = true := by
  obtain ⟨a, y⟩ := p
  simp only [] at h
  subst h
  unfold nx; rw [ok_bad]; rfl
theorem v_yes {s : ByteArray} {a k : Nat} (h : a + k ≤ s.size) : rdV s (a, false) k = ((numL ((s.data.toList.drop a).take k) : Nat) : Int) := by unfold rdV; rw [if_pos (ok_yes h)]
theorem t_yes {s : ByteArray} {a k : Nat} (h : a + k ≤ s.size) : rdT s (a, false) k = s.extract a (a + k) := by unfold rdT; rw [if_pos (ok_yes h)]
theorem v_no {s : ByteArray} {p : Nat × Bool} {k : Nat} (h : okR s p k = false) : rdV s p k = 0 := by unfold rdV; rw [h]; rfl
theorem t_no {s : ByteArray} {p : Nat × Bool} {k : Nat} (h : okR s p k = false) : rdT s p k = ⟨#[]⟩ := by unfold rdT; rw [h]; rfl
theorem nx_le {s : ByteArray} {k : Nat} {p : Nat × Bool} (h : p.1 ≤ s.size) : (nx s k p).1 ≤ s.size := by
  obtain ⟨a, y⟩ := p
  unfold nx
  cases hk : okR s (a, y) k
  · exact h
  · obtain ⟨_, h2⟩ := ok_cases hk
    exact h2
theorem v_range {s : ByteArray} {p : Nat × Bool} {k : Nat} (n : Int) (hn : n = ((256 ^ k : Nat) : Int)) (h : 0 < n) : 0 ≤ rdV s p k ∧ rdV s p k < n := by
  cases hk : okR s p k
  · rw [v_no hk]; exact ⟨by omega, h⟩
  · unfold rdV
    rw [if_pos hk]
    refine ⟨by omega, ?_⟩
    have h1 := Cur.numL_lt ((s.data.toList.drop p.1).take k)
    have h2 : 256 ^ ((s.data.toList.drop p.1).take k).length ≤ 256 ^ k := Nat.pow_le_pow_right (by decide) (by simp; omega)
    rw [hn]
    omega
theorem has_no {s : ByteArray} {a k : Nat} {y : Bool} (hk : okR s (a, y) k = false) : hasB a s.size k y = false := by
  cases y with
  | true => rfl
  | false =>
    have h : ¬ a + k ≤ s.size := fun h => by rw [ok_yes h] at hk; cases hk
    unfold hasB
    simp
    omega
theorem cnum (s : ByteArray) (p : Nat × Bool) (k : Nat) (ki : Int) (hki : ki = k) (hs : s.size ≤ maxLen) (hp : p.1 ≤ s.size) (h1 : 1 ≤ k) (h7 : k ≤ 7) (w : World) :
    Calls Tryd.prog 80 #[.agg #[.string s, .int .i64 (p.1 : Int), .int .i64 (s.size : Int), .bool p.2], .int .i64 ki] w fun e w' => e = .returned (.tuple #[.int .i64 (rdV s p k), .agg #[.string s, .int .i64 ((nx s k p).1 : Int), .int .i64 (s.size : Int), .bool (nx s k p).2]]) ∧ Below w.heap.size w w' := by
  subst hki
  obtain ⟨a, y⟩ := p
  cases hk : okR s (a, y) k
  · have := num_no s a s.size k y w hs hp (Nat.le_refl _) (has_no hk) (by omega) (by omega)
    rw [v_no hk, show nx s k (a, y) = (a, true) by unfold nx; rw [hk]; rfl]
    exact this
  · obtain ⟨rfl, h⟩ := ok_cases hk
    have := num_yes s a s.size k w hs hp (Nat.le_refl _) h h1 h7
    rw [v_yes h, nx_yes h]
    exact this
theorem ctext (s : ByteArray) (p : Nat × Bool) (k : Nat) (ki : Int) (hki : ki = k) (hs : s.size ≤ maxLen) (hp : p.1 ≤ s.size) (w : World) :
    Calls Tryd.prog 83 #[.agg #[.string s, .int .i64 (p.1 : Int), .int .i64 (s.size : Int), .bool p.2], .int .i64 ki] w fun e w' => e = .returned (.tuple #[.string (rdT s p k), .agg #[.string s, .int .i64 ((nx s k p).1 : Int), .int .i64 (s.size : Int), .bool (nx s k p).2]]) ∧ Below w.heap.size w w' := by
  subst hki
  obtain ⟨a, y⟩ := p
  cases hk : okR s (a, y) k
  · have := text_no s a s.size k y w hs hp (Nat.le_refl _) (has_no hk)
    rw [t_no hk, show nx s k (a, y) = (a, true) by unfold nx; rw [hk]; rfl]
    exact this
  · obtain ⟨rfl, h⟩ := ok_cases hk
    have := text_yes s a s.size k w hs hp (Nat.le_refl _) h
    rw [t_yes h, nx_yes h]
    exact this
/-- Nothing below B is changed, but block b. -/
structure Bel (B b : Nat) (w w' : World) : Prop where
  os : w'.os = w.os
  tape : w'.tape = w.tape
  output : w'.output = w.output
  size : w.heap.size ≤ w'.heap.size
  block : ∀ k, k < B → k ≠ b → w'.heap[k]? = w.heap[k]?
section
variable {B b : Nat} {w w' w'' : World}
theorem Bel.refl (B b : Nat) (w : World) : Bel B b w w := ⟨rfl, rfl, rfl, Nat.le_refl _, fun _ _ _ => rfl⟩
theorem Bel.trans (h : Bel B b w w') (k : Bel B b w' w'') : Bel B b w w'' := ⟨k.os.trans h.os, k.tape.trans h.tape, k.output.trans h.output, Nat.le_trans h.size k.size, fun i hi hn => (k.block i hi hn).trans (h.block i hi hn)⟩
theorem Bel.mono {B' : Nat} (h : Bel B b w w') (hB : B' ≤ B) : Bel B' b w w' := ⟨h.os, h.tape, h.output, h.size, fun k hk => h.block k (by omega)⟩
theorem Bel.of (h : Below B w w') : Bel B b w w' := ⟨h.os, h.tape, h.output, h.size, fun k hk _ => h.block k hk⟩
theorem Bel.to {C : Nat} (h : Bel B b w w') (hB : C ≤ B) (hb : C ≤ b) : Below C w w' := ⟨h.os, h.tape, h.output, h.size, fun k hk => h.block k (by omega) (by omega)⟩
theorem Bel.rowb (B : Nat) (cs : Array Value) : Bel B b w (w.setRow b cs) := ⟨rfl, rfl, rfl, by simp, fun k _ hn => setRow_other w b k cs hn⟩
theorem Bel.row {g : Nat} (h : Bel B b w w') (hg : B ≤ g) (cs : Array Value) : Bel B b w (w'.setRow g cs) := h.trans ⟨rfl, rfl, rfl, by simp, fun k hk _ => setRow_other w' g k cs (by omega)⟩
theorem Bel.cell {p : Addr} (h : Bel B b w w') (hg : B ≤ p.block) (v : Value) : Bel B b w (w'.setCell p v) := h.trans ⟨rfl, rfl, rfl, by simp [World.setCell], fun k hk _ => heap_setCell_other w' p k v (by omega)⟩
theorem Bel.bx {g : Nat} {m : M} (h : Bel w.heap.size b w w') (hn : g ≠ b) (hm : Bx w g m) : Bx w' g m := (h.block g hm.lt hn).trans hm
theorem Bel.bk {T : TypeId} {g : Nat} {cs : Array Value} (h : Bel w.heap.size b w w') (hn : g ≠ b) (hm : Bk T w g cs) : Bk T w' g cs := (h.block g hm.lt hn).trans hm
theorem Bel.tab (h : Bel B b w w') (hB : 0 < B) (hb : 0 < b) (ht : Tab w) : Tab w' := ht.under (h.to (C := 1) (by omega) (by omega)) (by omega)
end
/-- A reader's cells. -/
def cu (s : ByteArray) (p : Nat × Bool) : Array Value := cur s (p.1 : Int) (s.size : Int) p.2
theorem cu_one (s : ByteArray) (p : Nat × Bool) : ((cu s p).all fun x => x.oneCell') = true := cur_one _ _ _ _
/-- What a call on the reader in block b leaves: the answer, the place. -/
def Took (v : Value) (s : ByteArray) (p : Nat × Bool) (b : Nat) (w : World) (e : Ending) (w' : World) : Prop := e = .returned v ∧ Bk 62 w' b (cu s p) ∧ Bel w.heap.size b w w'
set_option maxHeartbeats 800000 in
theorem rdnum (s : ByteArray) (p : Nat × Bool) (k b : Nat) (ki : Int) (hki : ki = k) (hs : s.size ≤ maxLen) (hp : p.1 ≤ s.size) (h4 : 1 ≤ k) (h5 : k ≤ 7) (w : World) (hb : Bk 62 w b (cu s p)) :
    Calls Tryd.prog 62 #[.pointer (some ⟨b, 0, none⟩), .int .i64 ki] w (Took (.int .i64 (rdV s p k)) s (nx s k p) b w) := by
  have P := Lib.hid (cnum s p k ki hki hs hp h4 h5 w)
  have HQ := Lib.hid (show cu s (nx s k p) = #[.string s, .int .i64 ((nx s k p).1 : Int), .int .i64 (s.size : Int), .bool (nx s k p).2] from rfl)
  have HB := Lib.hid hb
  have hlt := hb.lt
  clear hb hki hp
  unfold Took
  generalize rdV s p k = v at *
  generalize nx s k p = q at *
  rw [HQ.out]
  clear HQ
  go_enter Tryd.func62, Tryd.ntmps62
  go_wp2_with (first | (refine wpList_loadK shC rfl _ rfl rfl HB.out rfl ?_))
  refine P.out.mono ?_
  rintro e w1 ⟨rfl, hb1⟩
  have HB1 := Lib.hid (HB.out.below hb1)
  have hlt1 := HB1.out.lt
  go_wp2_with (first | (refine wpList_storeK (b := b) shC rfl _ _ rfl rfl rfl (HB1.out.old _) rfl rfl (cur_one s (q.1 : Int) s.size q.2) ?_))
  go_ret
  exact ⟨rfl, (HB1.out.old _).put _, (Bel.of (hb1.alloc hb1.size _)).trans (Bel.rowb _ _)⟩
set_option maxHeartbeats 800000 in
theorem rdtext (s : ByteArray) (p : Nat × Bool) (k b : Nat) (ki : Int) (hki : ki = k) (hs : s.size ≤ maxLen) (hp : p.1 ≤ s.size) (w : World) (hb : Bk 62 w b (cu s p)) :
    Calls Tryd.prog 67 #[.pointer (some ⟨b, 0, none⟩), .int .i64 ki] w (Took (.string (rdT s p k)) s (nx s k p) b w) := by
  have P := Lib.hid (ctext s p k ki hki hs hp w)
  have HQ := Lib.hid (show cu s (nx s k p) = #[.string s, .int .i64 ((nx s k p).1 : Int), .int .i64 (s.size : Int), .bool (nx s k p).2] from rfl)
  have HB := Lib.hid hb
  have hlt := hb.lt
  clear hb hki hp
  unfold Took
  generalize rdT s p k = v at *
  generalize nx s k p = q at *
  rw [HQ.out]
  clear HQ
  go_enter Tryd.func67, Tryd.ntmps67
  go_wp2_with (first | (refine wpList_loadK shC rfl _ rfl rfl HB.out rfl ?_))
  refine P.out.mono ?_
  rintro e w1 ⟨rfl, hb1⟩
  have HB1 := Lib.hid (HB.out.below hb1)
  have hlt1 := HB1.out.lt
  go_wp2_with (first | (refine wpList_storeK (b := b) shC rfl _ _ rfl rfl rfl (HB1.out.old _) rfl rfl (cur_one s (q.1 : Int) s.size q.2) ?_))
  go_ret
  exact ⟨rfl, (HB1.out.old _).put _, (Bel.of (hb1.alloc hb1.size _)).trans (Bel.rowb _ _)⟩
set_option maxHeartbeats 800000 in
theorem rest_any (s : ByteArray) (a b : Nat) (hs : s.size ≤ maxLen) (ha : a ≤ s.size) (w : World) (hb : Bk 62 w b (cu s (a, false))) :
    Calls Tryd.prog 34 #[.pointer (some ⟨b, 0, none⟩)] w (Took (.string (s.extract a s.size)) s (s.size, false) b w) := by
  have hm := hs
  unfold maxLen at hm
  have PL := Lib.hid (left_ok s a s.size w)
  rw [IntWalk.wrap64_in _ ⟨by omega, by omega⟩] at PL
  have PT := Lib.hid (fun V (h : Bk 62 V b (cu s (a, false))) => rdtext s (a, false) (s.size - a) b ((s.size : Int) - a) (by omega) hs ha V h)
  have e1 : nx s (s.size - a) (a, false) = (s.size, false) := by rw [nx_yes (by omega)]; simp; omega
  have e2 : rdT s (a, false) (s.size - a) = s.extract a s.size := by rw [t_yes (by omega)]; congr 1; omega
  rw [e1, e2] at PT
  have HB := Lib.hid hb
  clear hb hs hm ha e1 e2
  go_enter Tryd.func34, Tryd.ntmps34
  go_wp2_with (first | (refine wpList_loadK shC rfl _ rfl rfl HB.out rfl ?_))
  refine PL.out.mono ?_
  rintro e w1 ⟨rfl, hb1⟩
  have HB := Lib.hid (HB.out.below hb1)
  have HL := Lib.hid (show Bel w.heap.size b w w1 from Bel.of hb1)
  have hsz := hb1.size
  clear hb1 PL
  go_wp2_with fail
  refine (PT.out _ HB.out).mono ?_
  rintro e w2 ⟨rfl, h1, h2⟩
  have HX := Lib.hid h1
  have HL := Lib.hid (HL.out.trans (h2.mono hsz))
  clear h1 h2
  go_wp2
  go_ret
  exact ⟨rfl, HX.out, HL.out⟩
/-- What stands in the middle of a kind's fields: the answer's block, the message in block mb, the reader in block b. -/
structure R (w0 W : World) (b mb : Nat) (s : ByteArray) (m : M) (p : Nat × Bool) : Prop where
  msg : Bx W mb m
  rd : Bk 62 W b (cu s p)
  res : Bx W w0.heap.size M.zero
  o1 : w0.heap.size < mb
  o2 : b < w0.heap.size
  bel : Bel w0.heap.size b w0 W
  le : p.1 ≤ s.size
section
variable {w0 W W' : World} {b mb : Nat} {s : ByteArray} {m m' : M} {p p' : Nat × Bool}
theorem R.step {v : Value} {k : Nat} {e : Ending} (g : R w0 W b mb s m p) (h : Took v s (nx s k p) b W e W') : R w0 W' b mb s m (nx s k p) :=
  ⟨h.2.2.bx (by have := g.o1; have := g.o2; omega) g.msg, h.2.1, h.2.2.bx (by have := g.o2; omega) g.res, g.o1, g.o2, g.bel.trans (h.2.2.mono g.bel.size), nx_le g.le⟩
theorem R.set (g : R w0 W b mb s m p) {i : Nat} {v : Value} (hm : m.cells.setIfInBounds i v = m'.cells) : R w0 (W.setCell ⟨mb, i, none⟩ v) b mb s m' p :=
  ⟨g.msg.set hm, g.rd.off (by have := g.o1; have := g.o2; show b ≠ mb; omega) _, g.res.off (by have := g.o1; show w0.heap.size ≠ mb; omega) _, g.o1, g.o2, g.bel.cell (p := ⟨mb, i, none⟩) (by have := g.o1; show w0.heap.size ≤ mb; omega) _, g.le⟩
theorem R.start (w : World) (s : ByteArray) (m0 : M) (hb : Bk 62 w b (cu s p)) (hp : p.1 ≤ s.size) :
    R w (((w.alloc (.cells M.zero.cells 25)).alloc (.cells M.zero.cells 25)).setRow (w.heap.size + 1) m0.cells) b (w.heap.size + 1) s m0 p := by
  have A := Bx.new (w.alloc (.cells M.zero.cells 25)) M.zero
  rw [alloc_size] at A
  have hl := hb.lt
  exact ⟨A.put, ((hb.old _).old _).row (by omega) _, ((Bx.new w M.zero).old _).row (by omega) _, by omega, hl,
    (Bel.of (balloc (balloc (Below.refl _ w) _) _)).row (by omega) _, hp⟩
theorem R.ends (g : R w0 W b mb s m p) (r : M) : Bx (W.setRow w0.heap.size r.cells) w0.heap.size r ∧ Bk 62 (W.setRow w0.heap.size r.cells) b (cu s p) ∧ Bel w0.heap.size b w0 (W.setRow w0.heap.size r.cells) :=
  ⟨g.res.put, g.rd.row (by have := g.o2; omega) _, g.bel.row (Nat.le_refl _) _⟩
end
theorem R.drew {w0 W : World} {b mb : Nat} {s : ByteArray} {m : M} {p : Nat × Bool} (g : R w0 W b mb s m p) : R w0 W.drew b mb s m p := ⟨g.msg, g.rd, g.res, g.o1, g.o2, ⟨g.bel.os, g.bel.tape, g.bel.output, g.bel.size, g.bel.block⟩, g.le⟩
/-- What the reads of ihu's last region read. -/
def Ih (mb i : Nat) (x k : Int) (W : World) : Prop := W.cell? ⟨mb, 5, none⟩ = some (.int .i64 x) ∧ W.cell? ⟨0, i, none⟩ = some (.int .i64 k)
theorem Ih.of {mb i : Nat} {x k : Int} {m : M} {W : World} (h : Bx W mb m) (e : m.ae = x) (t : W.cell? ⟨0, i, none⟩ = some (.int .i64 k)) : Ih mb i x k W := ⟨by rw [← e]; exact h.cs.c5, t⟩
theorem shM : Sh Tryd.prog 25 25 := ⟨_, Tryd.underlying25, by kernel_rfl⟩
/-- What ackReq takes. -/
def R2 (s : ByteArray) : M := { M.zero with kind := 7, nonce := rdV s (nx s 2 (0, false)) 2, interval := rdV s (nx s 2 (nx s 2 (0, false))) 2 }
set_option maxHeartbeats 3200000 in
theorem ack_any (s : ByteArray) (b : Nat) (hs : s.size ≤ maxLen) (w : World) (hb : Bk 62 w b (cu s (0, false))) :
    Calls Tryd.prog 61 #[.pointer (some ⟨b, 0, none⟩)] w (Took (.agg (R2 s).cells) s (nx s 2 (nx s 2 (nx s 2 (0, false)))) b w) := by
  show Calls _ _ _ _ (Took (.agg (M.cells ({ M.zero with kind := 7, nonce := (rdV s (nx s 2 (0, false)) 2), interval := (rdV s (nx s 2 (nx s 2 (0, false))) 2) } : M))) s (nx s 2 (nx s 2 (nx s 2 (0, false)))) b w)
  go_enter Tryd.func61, Tryd.ntmps61
  go_upto_region 1 with fail
  change Code.wp _ _ _ _ (w.alloc (.cells M.zero.cells 25))
  have hz := alloc_size w (.cells M.zero.cells 25)
  have A0 := Bx.new (w.alloc (.cells M.zero.cells 25)) M.zero
  rw [hz] at A0
  have HG := Lib.hid (R.start w s ({ M.zero with kind := 7 } : M) hb (Nat.zero_le _))
  clear hb
  generalize w.alloc (.cells M.zero.cells 25) = W at *
  go_upto_region 2 with (first | (refine wpList_builtK rfl 25 _ rfl (M.cells ({ M.zero with kind := 7 } : M)) (by kernel_rfl) ?_) | (change wpList _ _ _ _ _ (W.alloc (.cells M.zero.cells 25)); refine wpList_storeM (b := w.heap.size + 1) (m := M.zero) (m' := ({ M.zero with kind := 7 } : M)) rfl _ _ rfl (by first | rfl | (rw [← hz]; rfl)) rfl A0 ?_))
  try rw [hz]
  clear A0 hz
  generalize (W.alloc (.cells M.zero.cells 25)).setRow (w.heap.size + 1) _ = V at *
  clear W
  go_wp2_with fail
  refine (rdtext s (0, false) 2 b 2 rfl hs HG.out.le _ HG.out.rd).mono ?_
  intro e V1 ht
  have G0 := HG.out.step ht
  obtain ⟨rfl, ht⟩ := ht
  clear ht HG
  have HG := Lib.hid G0
  clear G0
  go_wp2_with fail
  refine (rdnum s (nx s 2 (0, false)) 2 b 2 rfl hs HG.out.le (by omega) (by omega) _ HG.out.rd).mono ?_
  intro e V2 ht
  have G0 := HG.out.step ht
  obtain ⟨rfl, ht⟩ := ht
  clear ht HG
  have d := G0.msg.cs.c17
  have fd := G0.msg.frozen 17
  have HG := Lib.hid (show R w (V2.setCell ⟨w.heap.size + 1, 17, none⟩ (.int .i64 (rdV s (nx s 2 (0, false)) 2))) b (w.heap.size + 1) s ({ M.zero with kind := 7, nonce := (rdV s (nx s 2 (0, false)) 2) } : M) (nx s 2 (nx s 2 (0, false))) from G0.set (m' := ({ M.zero with kind := 7, nonce := (rdV s (nx s 2 (0, false)) 2) } : M)) rfl)
  clear G0
  go_upto_region 4 with fail
  clear d fd
  generalize V2.setCell ⟨w.heap.size + 1, 17, none⟩ (.int .i64 (rdV s (nx s 2 (0, false)) 2)) = W2 at *
  go_wp2_with fail
  refine (rdnum s (nx s 2 (nx s 2 (0, false))) 2 b 2 rfl hs HG.out.le (by omega) (by omega) _ HG.out.rd).mono ?_
  intro e V3 ht
  have G0 := HG.out.step ht
  obtain ⟨rfl, ht⟩ := ht
  clear ht HG
  have d := G0.msg.cs.c14
  have fd := G0.msg.frozen 14
  have HG := Lib.hid (show R w (V3.setCell ⟨w.heap.size + 1, 14, none⟩ (.int .i64 (rdV s (nx s 2 (nx s 2 (0, false))) 2))) b (w.heap.size + 1) s ({ M.zero with kind := 7, nonce := (rdV s (nx s 2 (0, false)) 2), interval := (rdV s (nx s 2 (nx s 2 (0, false))) 2) } : M) (nx s 2 (nx s 2 (nx s 2 (0, false)))) from G0.set (m' := ({ M.zero with kind := 7, nonce := (rdV s (nx s 2 (0, false)) 2), interval := (rdV s (nx s 2 (nx s 2 (0, false))) 2) } : M)) rfl)
  clear G0
  go_upto_region 5 with fail
  clear d fd
  generalize V3.setCell ⟨w.heap.size + 1, 14, none⟩ (.int .i64 (rdV s (nx s 2 (nx s 2 (0, false))) 2)) = W3 at *
  have HE := Lib.hid (HG.out.ends ({ M.zero with kind := 7, nonce := (rdV s (nx s 2 (0, false)) 2), interval := (rdV s (nx s 2 (nx s 2 (0, false))) 2) } : M))
  go_wp2_with (first | (refine wpList_loadM (b := w.heap.size + 1) (m := ({ M.zero with kind := 7, nonce := (rdV s (nx s 2 (0, false)) 2), interval := (rdV s (nx s 2 (nx s 2 (0, false))) 2) } : M)) rfl _ rfl rfl HG.out.msg ?_) | (refine wpList_storeM (b := w.heap.size) (m := M.zero) (m' := ({ M.zero with kind := 7, nonce := (rdV s (nx s 2 (0, false)) 2), interval := (rdV s (nx s 2 (nx s 2 (0, false))) 2) } : M)) rfl _ _ rfl rfl rfl HG.out.res ?_))
  exact bodyPost_ret (v := .agg (M.cells ({ M.zero with kind := 7, nonce := (rdV s (nx s 2 (0, false)) 2), interval := (rdV s (nx s 2 (nx s 2 (0, false))) 2) } : M))) (results_one rfl _ _ w.heap.size _ rfl shM HE.out.1 rfl) rfl ⟨rfl, HE.out.2.1, HE.out.2.2⟩
/-- What hello takes. -/
def R4 (s : ByteArray) : M := { M.zero with kind := 9, flags := rdV s (0, false) 2 / 32768, seq := rdV s (nx s 2 (0, false)) 2, interval := rdV s (nx s 2 (nx s 2 (0, false))) 2 }
set_option maxHeartbeats 3200000 in
theorem hello_any (s : ByteArray) (b : Nat) (hs : s.size ≤ maxLen) (w : World) (hb : Bk 62 w b (cu s (0, false))) :
    Calls Tryd.prog 63 #[.pointer (some ⟨b, 0, none⟩)] w (Took (.agg (R4 s).cells) s (nx s 2 (nx s 2 (nx s 2 (0, false)))) b w) := by
  show Calls _ _ _ _ (Took (.agg (M.cells ({ M.zero with kind := 9, flags := ((rdV s (0, false) 2) / 32768), seq := (rdV s (nx s 2 (0, false)) 2), interval := (rdV s (nx s 2 (nx s 2 (0, false))) 2) } : M))) s (nx s 2 (nx s 2 (nx s 2 (0, false)))) b w)
  go_enter Tryd.func63, Tryd.ntmps63
  go_upto_region 1 with fail
  change Code.wp _ _ _ _ (w.alloc (.cells M.zero.cells 25))
  have hz := alloc_size w (.cells M.zero.cells 25)
  have A0 := Bx.new (w.alloc (.cells M.zero.cells 25)) M.zero
  rw [hz] at A0
  have HG := Lib.hid (R.start w s ({ M.zero with kind := 9 } : M) hb (Nat.zero_le _))
  clear hb
  generalize w.alloc (.cells M.zero.cells 25) = W at *
  go_upto_region 2 with (first | (refine wpList_builtK rfl 25 _ rfl (M.cells ({ M.zero with kind := 9 } : M)) (by kernel_rfl) ?_) | (change wpList _ _ _ _ _ (W.alloc (.cells M.zero.cells 25)); refine wpList_storeM (b := w.heap.size + 1) (m := M.zero) (m' := ({ M.zero with kind := 9 } : M)) rfl _ _ rfl (by first | rfl | (rw [← hz]; rfl)) rfl A0 ?_))
  try rw [hz]
  clear A0 hz
  generalize (W.alloc (.cells M.zero.cells 25)).setRow (w.heap.size + 1) _ = V at *
  clear W
  go_wp2_with fail
  refine (rdnum s (0, false) 2 b 2 rfl hs HG.out.le (by omega) (by omega) _ HG.out.rd).mono ?_
  intro e V4 ht
  have G0 := HG.out.step ht
  obtain ⟨rfl, ht⟩ := ht
  clear ht HG
  have d := G0.msg.cs.c15
  have fd := G0.msg.frozen 15
  have HG := Lib.hid (show R w (V4.setCell ⟨w.heap.size + 1, 15, none⟩ (.int .i64 ((rdV s (0, false) 2) / 32768))) b (w.heap.size + 1) s ({ M.zero with kind := 9, flags := ((rdV s (0, false) 2) / 32768) } : M) (nx s 2 (0, false)) from G0.set (m' := ({ M.zero with kind := 9, flags := ((rdV s (0, false) 2) / 32768) } : M)) rfl)
  clear G0
  have hv := v_range (s := s) (p := (0, false)) (k := 2) 65536 (by decide) (by decide)
  go_upto_region 3 with fail
  clear d fd hv
  generalize V4.setCell ⟨w.heap.size + 1, 15, none⟩ (.int .i64 ((rdV s (0, false) 2) / 32768)) = W4 at *
  go_wp2_with fail
  refine (rdnum s (nx s 2 (0, false)) 2 b 2 rfl hs HG.out.le (by omega) (by omega) _ HG.out.rd).mono ?_
  intro e V5 ht
  have G0 := HG.out.step ht
  obtain ⟨rfl, ht⟩ := ht
  clear ht HG
  have d := G0.msg.cs.c12
  have fd := G0.msg.frozen 12
  have HG := Lib.hid (show R w (V5.setCell ⟨w.heap.size + 1, 12, none⟩ (.int .i64 (rdV s (nx s 2 (0, false)) 2))) b (w.heap.size + 1) s ({ M.zero with kind := 9, flags := ((rdV s (0, false) 2) / 32768), seq := (rdV s (nx s 2 (0, false)) 2) } : M) (nx s 2 (nx s 2 (0, false))) from G0.set (m' := ({ M.zero with kind := 9, flags := ((rdV s (0, false) 2) / 32768), seq := (rdV s (nx s 2 (0, false)) 2) } : M)) rfl)
  clear G0
  go_upto_region 4 with fail
  clear d fd
  generalize V5.setCell ⟨w.heap.size + 1, 12, none⟩ (.int .i64 (rdV s (nx s 2 (0, false)) 2)) = W5 at *
  go_wp2_with fail
  refine (rdnum s (nx s 2 (nx s 2 (0, false))) 2 b 2 rfl hs HG.out.le (by omega) (by omega) _ HG.out.rd).mono ?_
  intro e V6 ht
  have G0 := HG.out.step ht
  obtain ⟨rfl, ht⟩ := ht
  clear ht HG
  have d := G0.msg.cs.c14
  have fd := G0.msg.frozen 14
  have HG := Lib.hid (show R w (V6.setCell ⟨w.heap.size + 1, 14, none⟩ (.int .i64 (rdV s (nx s 2 (nx s 2 (0, false))) 2))) b (w.heap.size + 1) s ({ M.zero with kind := 9, flags := ((rdV s (0, false) 2) / 32768), seq := (rdV s (nx s 2 (0, false)) 2), interval := (rdV s (nx s 2 (nx s 2 (0, false))) 2) } : M) (nx s 2 (nx s 2 (nx s 2 (0, false)))) from G0.set (m' := ({ M.zero with kind := 9, flags := ((rdV s (0, false) 2) / 32768), seq := (rdV s (nx s 2 (0, false)) 2), interval := (rdV s (nx s 2 (nx s 2 (0, false))) 2) } : M)) rfl)
  clear G0
  go_upto_region 5 with fail
  clear d fd
  generalize V6.setCell ⟨w.heap.size + 1, 14, none⟩ (.int .i64 (rdV s (nx s 2 (nx s 2 (0, false))) 2)) = W6 at *
  have HE := Lib.hid (HG.out.ends ({ M.zero with kind := 9, flags := ((rdV s (0, false) 2) / 32768), seq := (rdV s (nx s 2 (0, false)) 2), interval := (rdV s (nx s 2 (nx s 2 (0, false))) 2) } : M))
  go_wp2_with (first | (refine wpList_loadM (b := w.heap.size + 1) (m := ({ M.zero with kind := 9, flags := ((rdV s (0, false) 2) / 32768), seq := (rdV s (nx s 2 (0, false)) 2), interval := (rdV s (nx s 2 (nx s 2 (0, false))) 2) } : M)) rfl _ rfl rfl HG.out.msg ?_) | (refine wpList_storeM (b := w.heap.size) (m := M.zero) (m' := ({ M.zero with kind := 9, flags := ((rdV s (0, false) 2) / 32768), seq := (rdV s (nx s 2 (0, false)) 2), interval := (rdV s (nx s 2 (nx s 2 (0, false))) 2) } : M)) rfl _ _ rfl rfl rfl HG.out.res ?_))
  exact bodyPost_ret (v := .agg (M.cells ({ M.zero with kind := 9, flags := ((rdV s (0, false) 2) / 32768), seq := (rdV s (nx s 2 (0, false)) 2), interval := (rdV s (nx s 2 (nx s 2 (0, false))) 2) } : M))) (results_one rfl _ _ w.heap.size _ rfl shM HE.out.1 rfl) rfl ⟨rfl, HE.out.2.1, HE.out.2.2⟩
/-- What ihu takes ahead of the address; the whole, and whether it is one. -/
def I5 (s : ByteArray) : M := { M.zero with kind := 10, ae := rdV s (0, false) 1, cost := rdV s (nx s 1 (nx s 1 (0, false))) 2, interval := rdV s (nx s 2 (nx s 1 (nx s 1 (0, false)))) 2 }
def pI (s : ByteArray) : Nat × Bool := (nx s 2 (nx s 2 (nx s 1 (nx s 1 (0, false)))))
def R5 (s : ByteArray) : M := if 3 < rdV s (0, false) 1 then M.zero else { I5 s with addr := lgT (rdV s (0, false) 1) (rdT s (pI s) (sizeA (rdV s (0, false) 1))) }
def b5 (s : ByteArray) : Bool := decide (rdV s (0, false) 1 ≤ 3)
def p5 (s : ByteArray) : Nat × Bool := if 3 < rdV s (0, false) 1 then pI s else nx s (sizeA (rdV s (0, false) 1)) (pI s)
/-- What ihu leaves. -/
def TookB (m : M) (c : Bool) (s : ByteArray) (p : Nat × Bool) (b : Nat) (w : World) (e : Ending) (w' : World) : Prop := e = .returned (.tuple #[.agg m.cells, .bool c]) ∧ Bk 62 w' b (cu s p) ∧ Bel w.heap.size b w w'
set_option maxHeartbeats 6400000 in
theorem ihu_any (s : ByteArray) (b : Nat) (hs : s.size ≤ maxLen) (w : World) (hb : Bk 62 w b (cu s (0, false))) (ht : Tab w) (hb0 : 0 < b) :
    Calls Tryd.prog 64 #[.pointer (some ⟨b, 0, none⟩)] w (TookB (R5 s) (b5 s) s (p5 s) b w) := by
  have HT := Lib.hid ht
  have hw0 := ht.pos
  clear ht
  go_enter Tryd.func64, Tryd.ntmps64
  go_upto_region 1 with fail
  change Code.wp _ _ _ _ (w.alloc (.cells M.zero.cells 25))
  have hz := alloc_size w (.cells M.zero.cells 25)
  have A0 := Bx.new (w.alloc (.cells M.zero.cells 25)) M.zero
  rw [hz] at A0
  have HG := Lib.hid (R.start w s ({ M.zero with kind := 10 } : M) hb (Nat.zero_le _))
  clear hb
  generalize w.alloc (.cells M.zero.cells 25) = W at *
  go_upto_region 2 with (first | (refine wpList_builtK rfl 25 _ rfl (M.cells ({ M.zero with kind := 10 } : M)) (by kernel_rfl) ?_) | (change wpList _ _ _ _ _ (W.alloc (.cells M.zero.cells 25)); refine wpList_storeM (b := w.heap.size + 1) (m := M.zero) (m' := ({ M.zero with kind := 10 } : M)) rfl _ _ rfl (by first | rfl | (rw [← hz]; rfl)) rfl A0 ?_))
  try rw [hz]
  clear A0 hz
  generalize (W.alloc (.cells M.zero.cells 25)).setRow (w.heap.size + 1) _ = V at *
  clear W
  go_wp2_with fail
  refine (rdnum s (0, false) 1 b 1 rfl hs HG.out.le (by omega) (by omega) _ HG.out.rd).mono ?_
  intro e V7 ht
  have G0 := HG.out.step ht
  obtain ⟨rfl, ht⟩ := ht
  clear ht HG
  have d := G0.msg.cs.c5
  have fd := G0.msg.frozen 5
  have HG := Lib.hid (show R w (V7.setCell ⟨w.heap.size + 1, 5, none⟩ (.int .i64 (rdV s (0, false) 1))) b (w.heap.size + 1) s ({ M.zero with kind := 10, ae := (rdV s (0, false) 1) } : M) (nx s 1 (0, false)) from G0.set (m' := ({ M.zero with kind := 10, ae := (rdV s (0, false) 1) } : M)) rfl)
  clear G0
  go_upto_region 3 with fail
  clear d fd
  generalize V7.setCell ⟨w.heap.size + 1, 5, none⟩ (.int .i64 (rdV s (0, false) 1)) = W7 at *
  go_wp2_with fail
  refine (rdtext s (nx s 1 (0, false)) 1 b 1 rfl hs HG.out.le _ HG.out.rd).mono ?_
  intro e V8 ht
  have G0 := HG.out.step ht
  obtain ⟨rfl, ht⟩ := ht
  clear ht HG
  have HG := Lib.hid G0
  clear G0
  go_wp2_with fail
  refine (rdnum s (nx s 1 (nx s 1 (0, false))) 2 b 2 rfl hs HG.out.le (by omega) (by omega) _ HG.out.rd).mono ?_
  intro e V9 ht
  have G0 := HG.out.step ht
  obtain ⟨rfl, ht⟩ := ht
  clear ht HG
  have d := G0.msg.cs.c18
  have fd := G0.msg.frozen 18
  have HG := Lib.hid (show R w (V9.setCell ⟨w.heap.size + 1, 18, none⟩ (.int .i64 (rdV s (nx s 1 (nx s 1 (0, false))) 2))) b (w.heap.size + 1) s ({ M.zero with kind := 10, ae := (rdV s (0, false) 1), cost := (rdV s (nx s 1 (nx s 1 (0, false))) 2) } : M) (nx s 2 (nx s 1 (nx s 1 (0, false)))) from G0.set (m' := ({ M.zero with kind := 10, ae := (rdV s (0, false) 1), cost := (rdV s (nx s 1 (nx s 1 (0, false))) 2) } : M)) rfl)
  clear G0
  go_upto_region 5 with fail
  clear d fd
  generalize V9.setCell ⟨w.heap.size + 1, 18, none⟩ (.int .i64 (rdV s (nx s 1 (nx s 1 (0, false))) 2)) = W9 at *
  go_wp2_with fail
  refine (rdnum s (nx s 2 (nx s 1 (nx s 1 (0, false)))) 2 b 2 rfl hs HG.out.le (by omega) (by omega) _ HG.out.rd).mono ?_
  intro e V10 ht
  have G0 := HG.out.step ht
  obtain ⟨rfl, ht⟩ := ht
  clear ht HG
  have d := G0.msg.cs.c14
  have fd := G0.msg.frozen 14
  have HG := Lib.hid (show R w (V10.setCell ⟨w.heap.size + 1, 14, none⟩ (.int .i64 (rdV s (nx s 2 (nx s 1 (nx s 1 (0, false)))) 2))) b (w.heap.size + 1) s ({ M.zero with kind := 10, ae := (rdV s (0, false) 1), cost := (rdV s (nx s 1 (nx s 1 (0, false))) 2), interval := (rdV s (nx s 2 (nx s 1 (nx s 1 (0, false)))) 2) } : M) (nx s 2 (nx s 2 (nx s 1 (nx s 1 (0, false))))) from G0.set (m' := ({ M.zero with kind := 10, ae := (rdV s (0, false) 1), cost := (rdV s (nx s 1 (nx s 1 (0, false))) 2), interval := (rdV s (nx s 2 (nx s 1 (nx s 1 (0, false)))) 2) } : M)) rfl)
  clear G0
  go_upto_region 6 with fail
  clear d fd
  generalize V10.setCell ⟨w.heap.size + 1, 14, none⟩ (.int .i64 (rdV s (nx s 2 (nx s 1 (nx s 1 (0, false)))) 2)) = W10 at *
  have HG1 := Lib.hid (show R w W10 b (w.heap.size + 1) s (I5 s) (pI s) from HG.out)
  clear HG
  have HG := HG1
  clear HG1
  have HV := Lib.hid (show (I5 s).ae = rdV s (0, false) 1 from rfl)
  have PI := Lib.hid (fun x V => ae_any x V)
  have hv := v_range (s := s) (p := (0, false)) (k := 1) 256 (by decide) (by decide)
  have HR := Lib.hid (show R5 s = if 3 < rdV s (0, false) 1 then M.zero else { I5 s with addr := lgT (rdV s (0, false) 1) (rdT s (pI s) (sizeA (rdV s (0, false) 1))) } from rfl)
  have HQ := Lib.hid (show p5 s = if 3 < rdV s (0, false) 1 then pI s else nx s (sizeA (rdV s (0, false) 1)) (pI s) from rfl)
  have HC := Lib.hid (show b5 s = decide (rdV s (0, false) 1 ≤ 3) from rfl)
  generalize R5 s = r5 at *
  generalize p5 s = q5 at *
  generalize b5 s = c5 at *
  generalize I5 s = mi at *
  generalize pI s = pi at *
  generalize rdV s (0, false) 1 = x at *
  have c5 := HG.out.msg.cs.c5
  rw [HV.out] at c5
  by_cases h3 : 3 < x
  · rw [if_pos h3] at HR HQ
    rw [decide_eq_false (by omega)] at HC
    have PI := Lib.hid (fun V => PI.out x V)
    rw [decide_eq_false (by omega)] at PI
    go_wp2_with fail
    refine (PI.out _).mono ?_
    rintro e V' ⟨rfl, rfl⟩
    have HE := Lib.hid (HG.out.ends M.zero)
    go_wp2_with (first | (refine wpList_builtK rfl 25 _ rfl (M.cells M.zero) (by kernel_rfl) ?_) | (refine wpList_storeM (b := w.heap.size) (m := M.zero) (m' := M.zero) rfl _ _ rfl rfl rfl HG.out.res ?_))
    exact bodyPost_ret (v := .tuple #[.agg M.zero.cells, .bool false]) (results_pair rfl _ _ w.heap.size _ rfl (loadVarK shM HE.out.1 rfl) _ rfl) rfl ⟨by rw [HR.out, HC.out], by rw [HQ.out]; exact HE.out.2.1, HE.out.2.2⟩
  rw [if_neg h3] at HR HQ
  rw [decide_eq_true (by omega)] at HC
  have PI := Lib.hid (fun V => PI.out x V)
  rw [decide_eq_true (by omega)] at PI
  rcases (show x = 0 ∨ x = 1 ∨ x = 2 ∨ x = 3 by omega) with rfl | rfl | rfl | rfl
  · have HR := Lib.hid (show r5 = { mi with addr := lgT 0 (rdT s pi 0) } from HR.out)
    have HQ := Lib.hid (show q5 = nx s 0 pi from HQ.out)
    have PT := Lib.hid (fun V h => rdtext s pi 0 b 0 rfl hs HG.out.le V h)
    have PL := Lib.hid (fun V => lengthen_any 0 (rdT s pi 0) V)
    generalize rdT s pi 0 = tx at *
    generalize lgT 0 tx = ta at *
    go_wp2_with fail
    refine (PI.out _).mono ?_
    rintro e V' ⟨rfl, rfl⟩
    clear c5
    go_upto_region 8 with fail
    refine wp_region_held_drew (S := Ih (w.heap.size + 1) 0 0 0) (by kernel_rfl) (Ih.of HG.out.drew.msg HV.out (HG.out.drew.bel.tab hw0 hb0 HT.out).s0) (fun hS => ?_)
    have hG := HG.out.drew
    clear HG PI
    generalize World.drew _ = X0 at *
    refine H.tk (i := 0) (v := ?v0c0) ?h0c0 hS ?_
    case h0c0 => (intro w hw; go_simp; first | done | (with_reducible rfl))
    try simp only [Act.put, List.setIfInBounds_toArray, List.set_cons_zero, List.set_cons_succ]
    refine H.tk (i := 1) (v := .int .i64 0) ?h1c0 hS ?_
    case h1c0 => exact (fun w hw => by have c := hw.1; go_simp)
    try simp only [Act.put, List.setIfInBounds_toArray, List.set_cons_zero, List.set_cons_succ]
    refine H.tk (i := 2) (v := ?v2c0) ?h2c0 hS ?_
    case h2c0 => (intro w hw; go_simp; first | done | (with_reducible rfl))
    try simp only [Act.put, List.setIfInBounds_toArray, List.set_cons_zero, List.set_cons_succ]
    refine H.tk (i := 3) (v := ?v3c0) ?h3c0 hS ?_
    case h3c0 => (intro w hw; go_simp; first | done | (with_reducible rfl))
    try simp only [Act.put, List.setIfInBounds_toArray, List.set_cons_zero, List.set_cons_succ]
    refine H.tk (i := 4) (v := .int .i64 0) ?h4c0 hS ?_
    case h4c0 => exact (fun w hw => by have c := hw.1; go_simp)
    try simp only [Act.put, List.setIfInBounds_toArray, List.set_cons_zero, List.set_cons_succ]
    refine H.tk (i := 5) (v := .pointer (some ⟨0, 0, none⟩)) ?h5c0 hS ?_
    case h5c0 => exact (fun w hw => by go_simp)
    try simp only [Act.put, List.setIfInBounds_toArray, List.set_cons_zero, List.set_cons_succ]
    refine H.tk (i := 6) (v := .int .i64 0) ?h6c0 hS ?_
    case h6c0 => exact (fun w hw => by have c := hw.2; go_simp)
    try simp only [Act.put, List.setIfInBounds_toArray, List.set_cons_zero, List.set_cons_succ]
    refine wpAnyH_ready (rs := [7]) (by kernel_rfl) (by simp) ?_
    refine AllReadyH.cons rfl (fun K hK => ?_) AllReadyH.nil
    go_simp
    refine (PT.out _ hG.rd).mono ?_
    intro e V7 ht7
    have hG := hG.step ht7
    obtain ⟨rfl, ht7⟩ := ht7
    refine hK.out _ _ (Ih.of hG.msg HV.out (hG.bel.tab hw0 hb0 HT.out).s0) (fun hS7 => ?_)
    clear hK K hS ht7
    have hS := hS7
    clear hS7
    try simp only [Act.put, List.setIfInBounds_toArray, List.set_cons_zero, List.set_cons_succ]
    refine wpAnyH_ready (rs := [8]) (by kernel_rfl) (by simp) ?_
    refine AllReadyH.cons rfl (fun K hK => ?_) AllReadyH.nil
    go_simp
    refine (PL.out _).mono ?_
    rintro e V8 ⟨rfl, rfl⟩
    refine hK.out _ _ hS (fun _ => ?_)
    clear hK K
    try simp only [Act.put, List.setIfInBounds_toArray, List.set_cons_zero, List.set_cons_succ]
    refine H.tk (i := 9) (v := ?v9c0) ?h9c0 hS ?_
    case h9c0 => (intro w hw; go_simp; first | done | (with_reducible rfl))
    try simp only [Act.put, List.setIfInBounds_toArray, List.set_cons_zero, List.set_cons_succ]
    refine wpAnyH_ready (rs := [10]) (by kernel_rfl) (by simp) ?_
    refine AllReadyH.cons rfl (fun K hK => ?_) AllReadyH.nil
    have cx := hG.msg.cell 19 _ rfl
    have fx := hG.msg.frozen 19
    go_simp
    have hG := hG.set (i := 19) (v := .string ta) (m' := { mi with addr := ta }) rfl
    refine hK.out _ _ (Ih.of hG.msg HV.out (hG.bel.tab hw0 hb0 HT.out).s0) (fun hS' => ?_)
    try simp only [Act.put, List.setIfInBounds_toArray, List.set_cons_zero, List.set_cons_succ]
    refine wpAnyH_done (by kernel_rfl) ?_ _
    have HE := Lib.hid (hG.ends { mi with addr := ta })
    go_wp2_with (first | (refine wpList_loadM (b := w.heap.size + 1) (m := { mi with addr := ta }) rfl _ rfl rfl hG.msg ?_) | (refine wpList_storeM (b := w.heap.size) (m := M.zero) (m' := { mi with addr := ta }) rfl _ _ rfl rfl rfl hG.res ?_))
    exact bodyPost_ret (v := .tuple #[.agg (M.cells { mi with addr := ta }), .bool true]) (results_pair rfl _ _ w.heap.size _ rfl (loadVarK shM HE.out.1 rfl) _ rfl) rfl ⟨by rw [HR.out, HC.out], by rw [HQ.out]; exact HE.out.2.1, HE.out.2.2⟩
  · have HR := Lib.hid (show r5 = { mi with addr := lgT 1 (rdT s pi 4) } from HR.out)
    have HQ := Lib.hid (show q5 = nx s 4 pi from HQ.out)
    have PT := Lib.hid (fun V h => rdtext s pi 4 b 4 rfl hs HG.out.le V h)
    have PL := Lib.hid (fun V => lengthen_any 1 (rdT s pi 4) V)
    generalize rdT s pi 4 = tx at *
    generalize lgT 1 tx = ta at *
    go_wp2_with fail
    refine (PI.out _).mono ?_
    rintro e V' ⟨rfl, rfl⟩
    clear c5
    go_upto_region 8 with fail
    refine wp_region_held_drew (S := Ih (w.heap.size + 1) 1 1 4) (by kernel_rfl) (Ih.of HG.out.drew.msg HV.out (HG.out.drew.bel.tab hw0 hb0 HT.out).s1) (fun hS => ?_)
    have hG := HG.out.drew
    clear HG PI
    generalize World.drew _ = X0 at *
    refine H.tk (i := 0) (v := ?v0c1) ?h0c1 hS ?_
    case h0c1 => (intro w hw; go_simp; first | done | (with_reducible rfl))
    try simp only [Act.put, List.setIfInBounds_toArray, List.set_cons_zero, List.set_cons_succ]
    refine H.tk (i := 1) (v := .int .i64 1) ?h1c1 hS ?_
    case h1c1 => exact (fun w hw => by have c := hw.1; go_simp)
    try simp only [Act.put, List.setIfInBounds_toArray, List.set_cons_zero, List.set_cons_succ]
    refine H.tk (i := 2) (v := ?v2c1) ?h2c1 hS ?_
    case h2c1 => (intro w hw; go_simp; first | done | (with_reducible rfl))
    try simp only [Act.put, List.setIfInBounds_toArray, List.set_cons_zero, List.set_cons_succ]
    refine H.tk (i := 3) (v := ?v3c1) ?h3c1 hS ?_
    case h3c1 => (intro w hw; go_simp; first | done | (with_reducible rfl))
    try simp only [Act.put, List.setIfInBounds_toArray, List.set_cons_zero, List.set_cons_succ]
    refine H.tk (i := 4) (v := .int .i64 1) ?h4c1 hS ?_
    case h4c1 => exact (fun w hw => by have c := hw.1; go_simp)
    try simp only [Act.put, List.setIfInBounds_toArray, List.set_cons_zero, List.set_cons_succ]
    refine H.tk (i := 5) (v := .pointer (some ⟨0, 1, none⟩)) ?h5c1 hS ?_
    case h5c1 => exact (fun w hw => by go_simp)
    try simp only [Act.put, List.setIfInBounds_toArray, List.set_cons_zero, List.set_cons_succ]
    refine H.tk (i := 6) (v := .int .i64 4) ?h6c1 hS ?_
    case h6c1 => exact (fun w hw => by have c := hw.2; go_simp)
    try simp only [Act.put, List.setIfInBounds_toArray, List.set_cons_zero, List.set_cons_succ]
    refine wpAnyH_ready (rs := [7]) (by kernel_rfl) (by simp) ?_
    refine AllReadyH.cons rfl (fun K hK => ?_) AllReadyH.nil
    go_simp
    refine (PT.out _ hG.rd).mono ?_
    intro e V7 ht7
    have hG := hG.step ht7
    obtain ⟨rfl, ht7⟩ := ht7
    refine hK.out _ _ (Ih.of hG.msg HV.out (hG.bel.tab hw0 hb0 HT.out).s1) (fun hS7 => ?_)
    clear hK K hS ht7
    have hS := hS7
    clear hS7
    try simp only [Act.put, List.setIfInBounds_toArray, List.set_cons_zero, List.set_cons_succ]
    refine wpAnyH_ready (rs := [8]) (by kernel_rfl) (by simp) ?_
    refine AllReadyH.cons rfl (fun K hK => ?_) AllReadyH.nil
    go_simp
    refine (PL.out _).mono ?_
    rintro e V8 ⟨rfl, rfl⟩
    refine hK.out _ _ hS (fun _ => ?_)
    clear hK K
    try simp only [Act.put, List.setIfInBounds_toArray, List.set_cons_zero, List.set_cons_succ]
    refine H.tk (i := 9) (v := ?v9c1) ?h9c1 hS ?_
    case h9c1 => (intro w hw; go_simp; first | done | (with_reducible rfl))
    try simp only [Act.put, List.setIfInBounds_toArray, List.set_cons_zero, List.set_cons_succ]
    refine wpAnyH_ready (rs := [10]) (by kernel_rfl) (by simp) ?_
    refine AllReadyH.cons rfl (fun K hK => ?_) AllReadyH.nil
    have cx := hG.msg.cell 19 _ rfl
    have fx := hG.msg.frozen 19
    go_simp
    have hG := hG.set (i := 19) (v := .string ta) (m' := { mi with addr := ta }) rfl
    refine hK.out _ _ (Ih.of hG.msg HV.out (hG.bel.tab hw0 hb0 HT.out).s1) (fun hS' => ?_)
    try simp only [Act.put, List.setIfInBounds_toArray, List.set_cons_zero, List.set_cons_succ]
    refine wpAnyH_done (by kernel_rfl) ?_ _
    have HE := Lib.hid (hG.ends { mi with addr := ta })
    go_wp2_with (first | (refine wpList_loadM (b := w.heap.size + 1) (m := { mi with addr := ta }) rfl _ rfl rfl hG.msg ?_) | (refine wpList_storeM (b := w.heap.size) (m := M.zero) (m' := { mi with addr := ta }) rfl _ _ rfl rfl rfl hG.res ?_))
    exact bodyPost_ret (v := .tuple #[.agg (M.cells { mi with addr := ta }), .bool true]) (results_pair rfl _ _ w.heap.size _ rfl (loadVarK shM HE.out.1 rfl) _ rfl) rfl ⟨by rw [HR.out, HC.out], by rw [HQ.out]; exact HE.out.2.1, HE.out.2.2⟩
  · have HR := Lib.hid (show r5 = { mi with addr := lgT 2 (rdT s pi 16) } from HR.out)
    have HQ := Lib.hid (show q5 = nx s 16 pi from HQ.out)
    have PT := Lib.hid (fun V h => rdtext s pi 16 b 16 rfl hs HG.out.le V h)
    have PL := Lib.hid (fun V => lengthen_any 2 (rdT s pi 16) V)
    generalize rdT s pi 16 = tx at *
    generalize lgT 2 tx = ta at *
    go_wp2_with fail
    refine (PI.out _).mono ?_
    rintro e V' ⟨rfl, rfl⟩
    clear c5
    go_upto_region 8 with fail
    refine wp_region_held_drew (S := Ih (w.heap.size + 1) 2 2 16) (by kernel_rfl) (Ih.of HG.out.drew.msg HV.out (HG.out.drew.bel.tab hw0 hb0 HT.out).s2) (fun hS => ?_)
    have hG := HG.out.drew
    clear HG PI
    generalize World.drew _ = X0 at *
    refine H.tk (i := 0) (v := ?v0c2) ?h0c2 hS ?_
    case h0c2 => (intro w hw; go_simp; first | done | (with_reducible rfl))
    try simp only [Act.put, List.setIfInBounds_toArray, List.set_cons_zero, List.set_cons_succ]
    refine H.tk (i := 1) (v := .int .i64 2) ?h1c2 hS ?_
    case h1c2 => exact (fun w hw => by have c := hw.1; go_simp)
    try simp only [Act.put, List.setIfInBounds_toArray, List.set_cons_zero, List.set_cons_succ]
    refine H.tk (i := 2) (v := ?v2c2) ?h2c2 hS ?_
    case h2c2 => (intro w hw; go_simp; first | done | (with_reducible rfl))
    try simp only [Act.put, List.setIfInBounds_toArray, List.set_cons_zero, List.set_cons_succ]
    refine H.tk (i := 3) (v := ?v3c2) ?h3c2 hS ?_
    case h3c2 => (intro w hw; go_simp; first | done | (with_reducible rfl))
    try simp only [Act.put, List.setIfInBounds_toArray, List.set_cons_zero, List.set_cons_succ]
    refine H.tk (i := 4) (v := .int .i64 2) ?h4c2 hS ?_
    case h4c2 => exact (fun w hw => by have c := hw.1; go_simp)
    try simp only [Act.put, List.setIfInBounds_toArray, List.set_cons_zero, List.set_cons_succ]
    refine H.tk (i := 5) (v := .pointer (some ⟨0, 2, none⟩)) ?h5c2 hS ?_
    case h5c2 => exact (fun w hw => by go_simp)
    try simp only [Act.put, List.setIfInBounds_toArray, List.set_cons_zero, List.set_cons_succ]
    refine H.tk (i := 6) (v := .int .i64 16) ?h6c2 hS ?_
    case h6c2 => exact (fun w hw => by have c := hw.2; go_simp)
    try simp only [Act.put, List.setIfInBounds_toArray, List.set_cons_zero, List.set_cons_succ]
    refine wpAnyH_ready (rs := [7]) (by kernel_rfl) (by simp) ?_
    refine AllReadyH.cons rfl (fun K hK => ?_) AllReadyH.nil
    go_simp
    refine (PT.out _ hG.rd).mono ?_
    intro e V7 ht7
    have hG := hG.step ht7
    obtain ⟨rfl, ht7⟩ := ht7
    refine hK.out _ _ (Ih.of hG.msg HV.out (hG.bel.tab hw0 hb0 HT.out).s2) (fun hS7 => ?_)
    clear hK K hS ht7
    have hS := hS7
    clear hS7
    try simp only [Act.put, List.setIfInBounds_toArray, List.set_cons_zero, List.set_cons_succ]
    refine wpAnyH_ready (rs := [8]) (by kernel_rfl) (by simp) ?_
    refine AllReadyH.cons rfl (fun K hK => ?_) AllReadyH.nil
    go_simp
    refine (PL.out _).mono ?_
    rintro e V8 ⟨rfl, rfl⟩
    refine hK.out _ _ hS (fun _ => ?_)
    clear hK K
    try simp only [Act.put, List.setIfInBounds_toArray, List.set_cons_zero, List.set_cons_succ]
    refine H.tk (i := 9) (v := ?v9c2) ?h9c2 hS ?_
    case h9c2 => (intro w hw; go_simp; first | done | (with_reducible rfl))
    try simp only [Act.put, List.setIfInBounds_toArray, List.set_cons_zero, List.set_cons_succ]
    refine wpAnyH_ready (rs := [10]) (by kernel_rfl) (by simp) ?_
    refine AllReadyH.cons rfl (fun K hK => ?_) AllReadyH.nil
    have cx := hG.msg.cell 19 _ rfl
    have fx := hG.msg.frozen 19
    go_simp
    have hG := hG.set (i := 19) (v := .string ta) (m' := { mi with addr := ta }) rfl
    refine hK.out _ _ (Ih.of hG.msg HV.out (hG.bel.tab hw0 hb0 HT.out).s2) (fun hS' => ?_)
    try simp only [Act.put, List.setIfInBounds_toArray, List.set_cons_zero, List.set_cons_succ]
    refine wpAnyH_done (by kernel_rfl) ?_ _
    have HE := Lib.hid (hG.ends { mi with addr := ta })
    go_wp2_with (first | (refine wpList_loadM (b := w.heap.size + 1) (m := { mi with addr := ta }) rfl _ rfl rfl hG.msg ?_) | (refine wpList_storeM (b := w.heap.size) (m := M.zero) (m' := { mi with addr := ta }) rfl _ _ rfl rfl rfl hG.res ?_))
    exact bodyPost_ret (v := .tuple #[.agg (M.cells { mi with addr := ta }), .bool true]) (results_pair rfl _ _ w.heap.size _ rfl (loadVarK shM HE.out.1 rfl) _ rfl) rfl ⟨by rw [HR.out, HC.out], by rw [HQ.out]; exact HE.out.2.1, HE.out.2.2⟩
  · have HR := Lib.hid (show r5 = { mi with addr := lgT 3 (rdT s pi 8) } from HR.out)
    have HQ := Lib.hid (show q5 = nx s 8 pi from HQ.out)
    have PT := Lib.hid (fun V h => rdtext s pi 8 b 8 rfl hs HG.out.le V h)
    have PL := Lib.hid (fun V => lengthen_any 3 (rdT s pi 8) V)
    generalize rdT s pi 8 = tx at *
    generalize lgT 3 tx = ta at *
    go_wp2_with fail
    refine (PI.out _).mono ?_
    rintro e V' ⟨rfl, rfl⟩
    clear c5
    go_upto_region 8 with fail
    refine wp_region_held_drew (S := Ih (w.heap.size + 1) 3 3 8) (by kernel_rfl) (Ih.of HG.out.drew.msg HV.out (HG.out.drew.bel.tab hw0 hb0 HT.out).s3) (fun hS => ?_)
    have hG := HG.out.drew
    clear HG PI
    generalize World.drew _ = X0 at *
    refine H.tk (i := 0) (v := ?v0c3) ?h0c3 hS ?_
    case h0c3 => (intro w hw; go_simp; first | done | (with_reducible rfl))
    try simp only [Act.put, List.setIfInBounds_toArray, List.set_cons_zero, List.set_cons_succ]
    refine H.tk (i := 1) (v := .int .i64 3) ?h1c3 hS ?_
    case h1c3 => exact (fun w hw => by have c := hw.1; go_simp)
    try simp only [Act.put, List.setIfInBounds_toArray, List.set_cons_zero, List.set_cons_succ]
    refine H.tk (i := 2) (v := ?v2c3) ?h2c3 hS ?_
    case h2c3 => (intro w hw; go_simp; first | done | (with_reducible rfl))
    try simp only [Act.put, List.setIfInBounds_toArray, List.set_cons_zero, List.set_cons_succ]
    refine H.tk (i := 3) (v := ?v3c3) ?h3c3 hS ?_
    case h3c3 => (intro w hw; go_simp; first | done | (with_reducible rfl))
    try simp only [Act.put, List.setIfInBounds_toArray, List.set_cons_zero, List.set_cons_succ]
    refine H.tk (i := 4) (v := .int .i64 3) ?h4c3 hS ?_
    case h4c3 => exact (fun w hw => by have c := hw.1; go_simp)
    try simp only [Act.put, List.setIfInBounds_toArray, List.set_cons_zero, List.set_cons_succ]
    refine H.tk (i := 5) (v := .pointer (some ⟨0, 3, none⟩)) ?h5c3 hS ?_
    case h5c3 => exact (fun w hw => by go_simp)
    try simp only [Act.put, List.setIfInBounds_toArray, List.set_cons_zero, List.set_cons_succ]
    refine H.tk (i := 6) (v := .int .i64 8) ?h6c3 hS ?_
    case h6c3 => exact (fun w hw => by have c := hw.2; go_simp)
    try simp only [Act.put, List.setIfInBounds_toArray, List.set_cons_zero, List.set_cons_succ]
    refine wpAnyH_ready (rs := [7]) (by kernel_rfl) (by simp) ?_
    refine AllReadyH.cons rfl (fun K hK => ?_) AllReadyH.nil
    go_simp
    refine (PT.out _ hG.rd).mono ?_
    intro e V7 ht7
    have hG := hG.step ht7
    obtain ⟨rfl, ht7⟩ := ht7
    refine hK.out _ _ (Ih.of hG.msg HV.out (hG.bel.tab hw0 hb0 HT.out).s3) (fun hS7 => ?_)
    clear hK K hS ht7
    have hS := hS7
    clear hS7
    try simp only [Act.put, List.setIfInBounds_toArray, List.set_cons_zero, List.set_cons_succ]
    refine wpAnyH_ready (rs := [8]) (by kernel_rfl) (by simp) ?_
    refine AllReadyH.cons rfl (fun K hK => ?_) AllReadyH.nil
    go_simp
    refine (PL.out _).mono ?_
    rintro e V8 ⟨rfl, rfl⟩
    refine hK.out _ _ hS (fun _ => ?_)
    clear hK K
    try simp only [Act.put, List.setIfInBounds_toArray, List.set_cons_zero, List.set_cons_succ]
    refine H.tk (i := 9) (v := ?v9c3) ?h9c3 hS ?_
    case h9c3 => (intro w hw; go_simp; first | done | (with_reducible rfl))
    try simp only [Act.put, List.setIfInBounds_toArray, List.set_cons_zero, List.set_cons_succ]
    refine wpAnyH_ready (rs := [10]) (by kernel_rfl) (by simp) ?_
    refine AllReadyH.cons rfl (fun K hK => ?_) AllReadyH.nil
    have cx := hG.msg.cell 19 _ rfl
    have fx := hG.msg.frozen 19
    go_simp
    have hG := hG.set (i := 19) (v := .string ta) (m' := { mi with addr := ta }) rfl
    refine hK.out _ _ (Ih.of hG.msg HV.out (hG.bel.tab hw0 hb0 HT.out).s3) (fun hS' => ?_)
    try simp only [Act.put, List.setIfInBounds_toArray, List.set_cons_zero, List.set_cons_succ]
    refine wpAnyH_done (by kernel_rfl) ?_ _
    have HE := Lib.hid (hG.ends { mi with addr := ta })
    go_wp2_with (first | (refine wpList_loadM (b := w.heap.size + 1) (m := { mi with addr := ta }) rfl _ rfl rfl hG.msg ?_) | (refine wpList_storeM (b := w.heap.size) (m := M.zero) (m' := { mi with addr := ta }) rfl _ _ rfl rfl rfl hG.res ?_))
    exact bodyPost_ret (v := .tuple #[.agg (M.cells { mi with addr := ta }), .bool true]) (results_pair rfl _ _ w.heap.size _ rfl (loadVarK shM HE.out.1 rfl) _ rfl) rfl ⟨by rw [HR.out, HC.out], by rw [HQ.out]; exact HE.out.2.1, HE.out.2.2⟩
end Go.Proofs.YtlfgfmhpcokjpaaDoor.G4
