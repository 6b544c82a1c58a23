/-
  The messages of Babel's TLVs, of a body and of a datagram: the program's answer. Conditions: the TLVs stand in the world; no more than 50,000, as Split tells them; a datagram of at most 50,000 bytes.
  Whether what is known may be: the document's answer. No condition.
-/
import Derived.Test.YtpkmpinbpfblfaaGreatDoorQ05
import Derived.Test.YtpkmpinbpfblfaaGreatDoorQ06
import Derived.Test.YtpkmpinbpfblfaaGreatDoorQ07
import Derived.Test.YtpkmpinbpfblfaaGreatDoorQ09
import Derived.Test.YtpkmpinbpfblfaaGreatDoorQ10
namespace Go.Proofs.YtpkmpinbpfblfaaGreatDoor.I8
open Go.ChangeShapes Go.WideShapes Go.ChangeAt Go.RowKit
open Go.Proofs.YtpkmpinbpfblfaaGreatDoor.Ms
open Go.Proofs.YtpkmpinbpfblfaaGreatDoor.Box
open Go.Proofs.YtpkmpinbpfblfaaGreatDoor.An
open Go.Proofs.YtpkmpinbpfblfaaGreatDoor.K1
open Go.Proofs.YtpkmpinbpfblfaaGreatDoor.Kb
open Go.Proofs.YtpkmpinbpfblfaaGreatDoor.I1
open Go.Proofs.YtpkmpinbpfblfaaGreatDoor.Lm
open Go.Proofs.YtpkmpinbpfblfaaGreatDoor.Fq
open Go.Proofs.YtpkmpinbpfblfaaGreatDoor.Tc
open Go.Proofs.YtpkmpinbpfblfaaGreatDoor.G1 (outF)
open Go.Proofs.YtpkmpinbpfblfaaGreatDoor.J1 (outJ)
open Go.Proofs.YtpkmpinbpfblfaaGreatDoor.Tl (cellsT TRow indexT)
open Go.Proofs.YtpkmpinbpfblfaaGreatDoor.Own (loadVarM)
open Go.Proofs.YtpkmpinbpfblfaaGreatDoor.Hs
open Go.Proofs.YtpkmpinbpfblfaaGreatDoor.Hy (H.one H.two wp_valW)
open Go.Proofs.YtpkmpinbpfblfaaGreatDoor.Hx (ex_built)
open Go.Proofs.YtpkmpinbpfblfaaGreatDoor.Bk (Bk wpList_builtK run_loadK loadVarK alloc_size results_one)
open Go.Proofs.YtpkmpinbpfblfaaGreatDoor.F1 (outT outB trail head)
open Go.Proofs.YtpkmpinbpfblfaaGreatDoor.F2 (results_head BodyIs body_any trailer_any)
open Go.Proofs.YtpkmpinbpfblfaaGreatDoor.F4 (AnsT split_own)
open Go.Proofs.YtpkmpinbpfblfaaGreatDoor.K6 (infoX)
set_option linter.unusedVariables false
set_option maxRecDepth 100000
/-- A message's answer stands: the own Subs begin at block B. -/
theorem AnsB.parts {p : M × Bool × Int} {w : World} {e : Ending} {w' : World} (h : AnsB p w e w') : ∃ n : M, e = .returned (.tuple #[.agg n.cells, .bool p.2.1, .int .i64 p.2.2]) ∧ Pl n p.1 ∧ Sx.Lst w.heap.size w' (.slice n.sa n.sl.length n.sc) n.sl ∧ Below w.heap.size w w' := by
  obtain ⟨sa, sc, h1, h3, h4⟩ := h
  exact ⟨_, h1, rfl, h3, h4⟩
/-- What take's boxes hold: what is known, the TLV, the result's. -/
structure St (w : World) (c : Kx) (x : F1.T) (W : World) : Prop where
  s0 : Bk 35 W w.heap.size c.cells
  t0 : Bk 31 W (w.heap.size + 1) (cellsT x)
  r0 : Bk 35 W (w.heap.size + 1 + 1) Kx.zero.cells
  bel : Below w.heap.size w W
theorem St.call {w V W : World} {c : Kx} {x : F1.T} (h : St w c x V) (hb : Below V.heap.size V W) : St w c x W := ⟨h.s0.below hb, h.t0.below hb, h.r0.below hb, bcall h.bel hb⟩
theorem St.start (w : World) (c : Kx) (x : F1.T) : St w c x (((w.alloc (.cells c.cells 35)).alloc (.cells (cellsT x) 31)).alloc (.cells Kx.zero.cells 35)) := by
  refine ⟨((Bk.Bk.new 35 w c.cells).old _).old _, ?_, ?_, balloc (balloc (balloc (Below.refl _ w) _) _) _⟩
  · have := Bk.Bk.new 31 (w.alloc (.cells c.cells 35)) (cellsT x)
    rw [alloc_size] at this
    exact this.old _
  · have := Bk.Bk.new 35 ((w.alloc (.cells c.cells 35)).alloc (.cells (cellsT x) 31)) Kx.zero.cells
    rw [alloc_size, alloc_size] at this
    exact this
/-- An answer that the caller stores into its own result, and hands on. -/
theorem AnsC.on {p : Kx × List M × Int} {w W w1 : World} {a : Option Addr} {k : Nat} {l : List M} {g : Nat} (hp : PlL l p.2.1) (hm : MOwn W.heap.size w1 a l) (hb : Below w.heap.size w w1) (hg : w.heap.size ≤ g) (hz : g < W.heap.size) : AnsC p w (.returned (.tuple #[.agg p.1.cells, .slice a l.length k, .int .i64 p.2.2])) (w1.setRow g p.1.cells) :=
  ⟨a, k, l, rfl, hp, (hm.under hz _).mono (by omega), Box.below_setRow hb hg _⟩
/-- A message's answer, told beside what is known: a list of it, if it counts. -/
theorem AnsC.told {c : Kx} {p : M × Bool × Int} {n : M} {w w' : World} {a : Option Addr} {k B : Nat} {l : List M} (hn : Pl n p.1) (hc : p.2.1 = true → p.2.2 = 0) (hl : l = if p.2.1 = true then [n] else []) (hm : MOwn B w' a l) (hB : w.heap.size ≤ B) (hb : Below w.heap.size w w') :
    AnsC (tell c p) w (.returned (.tuple #[.agg c.cells, .slice a l.length k, .int .i64 p.2.2])) w' := by
  refine ⟨a, k, l, rfl, ?_, hm.mono hB, hb⟩
  subst hl
  unfold tell
  by_cases h : p.2.1 = true
  · rw [if_pos h, if_pos ⟨hc h, h⟩]; exact PlL.one hn
  · rw [if_neg h, if_neg (fun k => h k.2)]; exact PlL.nil
theorem told_any {B : Nat} (n : M) (b : Bool) (w : World) (hll : n.ll = []) (hl : Sx.Lst B w (.slice n.sa n.sl.length n.sc) n.sl) (hB : B ≤ w.heap.size) :
    Calls Tryz.prog 26 #[.agg n.cells, .bool b] w fun e w' => ∃ a k l, e = .returned (.slice a l.length k) ∧ l = (if b = true then [n] else []) ∧ MOwn B w' a l ∧ Below w.heap.size w w' := by
  have X0 := Lib.hid (Bx.new w n)
  have bel := balloc (Below.refl _ w) (.cells n.cells 43)
  have HL := Lib.hid (hl.below bel)
  have HB := Lib.hid bel
  have hB2 : B ≤ (w.alloc (.cells n.cells 43)).heap.size := by rw [alloc_size]; omega
  clear hl bel
  cases b with
  | false =>
    go_enter Tryz.func26, Tryz.ntmps26
    go_upto_region 1 with fail
    change Code.wp _ _ _ _ (w.alloc (.cells n.cells 43))
    generalize w.alloc (.cells n.cells 43) = V at *
    go_wp2
    go_ret
    exact ⟨none, 0, [], rfl, rfl, MOwn.nil _ _ _, HB.out⟩
  | true =>
    go_enter Tryz.func26, Tryz.ntmps26
    go_upto_region 1 with fail
    change Code.wp _ _ _ _ (w.alloc (.cells n.cells 43))
    have HM := Lib.hid (one_new hll HL.out hB2)
    have HB2 := Lib.hid (bcall HB.out (balloc (Below.refl _ _) (.cells n.cells 43)))
    generalize w.alloc (.cells n.cells 43) = V at *
    go_wp2_with (first | (refine wpList_loadM (b := w.heap.size) (m := n) rfl _ rfl rfl X0.out ?_) | (refine Ap.bs_one (m := n) rfl _ rfl rfl ?_))
    go_ret
    exact ⟨some ⟨V.heap.size, 0, none⟩, 1, [n], rfl, rfl, HM.out, HB2.out⟩
theorem opaque_any (a t : Int) (d : ByteArray) (w : World) : Calls Tryz.prog 29 #[.agg (cellsT (a, (d, t)))] w fun e w' => e = .returned (.agg (M.cells (opM t d))) ∧ Below w.heap.size w w' := by
  have T0 := Lib.hid ((Bk.Bk.new 31 w (cellsT (a, (d, t)))).old (.cells M.zero.cells 43))
  have X0 := Bx.new (w.alloc (.cells (cellsT (a, (d, t))) 31)) M.zero
  rw [alloc_size] at X0
  have X0 := Lib.hid X0
  have HB := Lib.hid (balloc (balloc (Below.refl _ w) (.cells (cellsT (a, (d, t))) 31)) (.cells M.zero.cells 43))
  go_enter Tryz.func29, Tryz.ntmps29
  go_upto_region 1 with fail
  change Code.wp _ _ _ _ ((w.alloc (.cells (cellsT (a, (d, t))) 31)).alloc (.cells M.zero.cells 43))
  generalize (w.alloc (.cells (cellsT (a, (d, t))) 31)).alloc (.cells M.zero.cells 43) = V at *
  have ct := T0.out.cell 0 (.int .i64 t) rfl
  have cd := T0.out.cell 2 (.string d) rfl
  go_wp2_with (first | (refine wpList_builtK rfl 43 _ rfl (M.cells (opM t d)) (by kernel_rfl) ?_) | (refine wpList_storeM (b := w.heap.size + 1) (m := M.zero) (m' := opM t d) rfl _ _ rfl rfl rfl X0.out ?_))
  exact bodyPost_ret (v := .agg (M.cells (opM t d))) (results_one rfl _ _ (w.heap.size + 1) _ rfl J4.shM X0.out.put rfl) rfl ⟨rfl, Box.below_setRow HB.out (by omega) _⟩
set_option maxHeartbeats 6400000 in
set_option maxRecDepth 100000 in
theorem take_pad (c : Kx) (a t : Int) (d : ByteArray) (w : World)  (h : t = 0 ∨ t = 1) (ht : Tab w) : Calls Tryz.prog 17 #[.agg c.cells, .agg (cellsT (a, (d, t)))] w (AnsC (one c t d) w) := by
  have HY := Lib.hid (one_pad h c d)
  rcases h with rfl | rfl
  · have HT := Lib.hid ht
    clear ht
    go_enter Tryz.func17, Tryz.ntmps17
    go_upto_region 1 with fail
    change Code.wp _ _ _ _ (((w.alloc (.cells c.cells 35)).alloc (.cells (cellsT (a, (d, 0))) 31)).alloc (.cells Kx.zero.cells 35))
    have D := Lib.hid (St.start w c (a, (d, 0)))
    generalize ((w.alloc (.cells c.cells 35)).alloc (.cells (cellsT (a, (d, 0))) 31)).alloc (.cells Kx.zero.cells 35) = V at *
    have ct := D.out.t0.cell 0 (.int .i64 0) rfl
    have hlt := D.out.r0.lt
    go_wp2_with (first | (refine wpList_loadX (b := w.heap.size) (m := c) rfl _ rfl rfl D.out.s0 ?_) | (refine wpList_storeX (b := w.heap.size + 1 + 1) (m := Kx.zero) (m' := c) rfl _ _ rfl rfl rfl D.out.r0 ?_))
    exact bodyPost_ret (v := .tuple #[.agg (Kx.cells c), .slice none 0 0, .int .i64 0]) (results_three rfl _ _ (w.heap.size + 1 + 1) _ rfl (loadVarK shX (D.out.r0.put (Kx.cells c)) rfl) (.slice none 0 0) rfl (.int .i64 0) rfl) rfl (AnsC.no HY.out (Box.below_setRow D.out.bel (by omega) _))
  · have HT := Lib.hid ht
    clear ht
    go_enter Tryz.func17, Tryz.ntmps17
    go_upto_region 1 with fail
    change Code.wp _ _ _ _ (((w.alloc (.cells c.cells 35)).alloc (.cells (cellsT (a, (d, 1))) 31)).alloc (.cells Kx.zero.cells 35))
    have D := Lib.hid (St.start w c (a, (d, 1)))
    generalize ((w.alloc (.cells c.cells 35)).alloc (.cells (cellsT (a, (d, 1))) 31)).alloc (.cells Kx.zero.cells 35) = V at *
    have ct := D.out.t0.cell 0 (.int .i64 1) rfl
    have hlt := D.out.r0.lt
    go_wp2_with (first | (refine wpList_loadX (b := w.heap.size) (m := c) rfl _ rfl rfl D.out.s0 ?_) | (refine wpList_storeX (b := w.heap.size + 1 + 1) (m := Kx.zero) (m' := c) rfl _ _ rfl rfl rfl D.out.r0 ?_))
    exact bodyPost_ret (v := .tuple #[.agg (Kx.cells c), .slice none 0 0, .int .i64 0]) (results_three rfl _ _ (w.heap.size + 1 + 1) _ rfl (loadVarK shX (D.out.r0.put (Kx.cells c)) rfl) (.slice none 0 0) rfl (.int .i64 0) rfl) rfl (AnsC.no HY.out (Box.below_setRow D.out.bel (by omega) _))
set_option maxHeartbeats 6400000 in
set_option maxRecDepth 100000 in
theorem take_known (c : Kx) (a t : Int) (d : ByteArray) (w : World) (hc : okC c = true) (hs : d.size ≤ 100000) (h : t = 6 ∨ t = 7 ∨ t = 8) (ht : Tab w) : Calls Tryz.prog 17 #[.agg c.cells, .agg (cellsT (a, (d, t)))] w (AnsC (one c t d) w) := by
  have P1 := Lib.hid (fun V (y : Tab V) => K6.step_any c a t d V h hc hs y)
  have HY := Lib.hid (one_c (t := t) (by omega) (by omega) c d)
  generalize outC c t d = q at *
  rw [HY.out]
  clear HY hc hs
  rcases h with rfl | rfl | rfl
  · have HT := Lib.hid ht
    clear ht
    go_enter Tryz.func17, Tryz.ntmps17
    go_upto_region 1 with fail
    change Code.wp _ _ _ _ (((w.alloc (.cells c.cells 35)).alloc (.cells (cellsT (a, (d, 6))) 31)).alloc (.cells Kx.zero.cells 35))
    have D := Lib.hid (St.start w c (a, (d, 6)))
    generalize ((w.alloc (.cells c.cells 35)).alloc (.cells (cellsT (a, (d, 6))) 31)).alloc (.cells Kx.zero.cells 35) = V at *
    have ct := D.out.t0.cell 0 (.int .i64 6) rfl
    have hlt := D.out.r0.lt
    go_wp2_with (first | (refine wpList_loadX (b := w.heap.size) (m := c) rfl _ rfl rfl D.out.s0 ?_) | (refine Bk.wpList_loadK (b := w.heap.size + 1) Tl.shT rfl _ rfl rfl D.out.t0 rfl ?_))
    refine (P1.out _ (HT.out.below D.out.bel)).mono ?_
    rintro e w1 ⟨qa, qk, l, rfl, hp, hm, hb⟩
    have D := Lib.hid (D.out.call hb)
    clear hb P1 ct
    go_wp2_with (first | (refine wpList_storeX (b := w.heap.size + 1 + 1) (m := Kx.zero) (m' := q.1) rfl _ _ rfl rfl rfl D.out.r0 ?_))
    exact bodyPost_ret (v := .tuple #[.agg (Kx.cells q.1), .slice qa l.length qk, .int .i64 q.2.2]) (results_three rfl _ _ (w.heap.size + 1 + 1) _ rfl (loadVarK shX (D.out.r0.put (Kx.cells q.1)) rfl) (.slice qa l.length qk) rfl (.int .i64 q.2.2) rfl) rfl (AnsC.on hp hm D.out.bel (by omega) (by omega))
  · have HT := Lib.hid ht
    clear ht
    go_enter Tryz.func17, Tryz.ntmps17
    go_upto_region 1 with fail
    change Code.wp _ _ _ _ (((w.alloc (.cells c.cells 35)).alloc (.cells (cellsT (a, (d, 7))) 31)).alloc (.cells Kx.zero.cells 35))
    have D := Lib.hid (St.start w c (a, (d, 7)))
    generalize ((w.alloc (.cells c.cells 35)).alloc (.cells (cellsT (a, (d, 7))) 31)).alloc (.cells Kx.zero.cells 35) = V at *
    have ct := D.out.t0.cell 0 (.int .i64 7) rfl
    have hlt := D.out.r0.lt
    go_wp2_with (first | (refine wpList_loadX (b := w.heap.size) (m := c) rfl _ rfl rfl D.out.s0 ?_) | (refine Bk.wpList_loadK (b := w.heap.size + 1) Tl.shT rfl _ rfl rfl D.out.t0 rfl ?_))
    refine (P1.out _ (HT.out.below D.out.bel)).mono ?_
    rintro e w1 ⟨qa, qk, l, rfl, hp, hm, hb⟩
    have D := Lib.hid (D.out.call hb)
    clear hb P1 ct
    go_wp2_with (first | (refine wpList_storeX (b := w.heap.size + 1 + 1) (m := Kx.zero) (m' := q.1) rfl _ _ rfl rfl rfl D.out.r0 ?_))
    exact bodyPost_ret (v := .tuple #[.agg (Kx.cells q.1), .slice qa l.length qk, .int .i64 q.2.2]) (results_three rfl _ _ (w.heap.size + 1 + 1) _ rfl (loadVarK shX (D.out.r0.put (Kx.cells q.1)) rfl) (.slice qa l.length qk) rfl (.int .i64 q.2.2) rfl) rfl (AnsC.on hp hm D.out.bel (by omega) (by omega))
  · have HT := Lib.hid ht
    clear ht
    go_enter Tryz.func17, Tryz.ntmps17
    go_upto_region 1 with fail
    change Code.wp _ _ _ _ (((w.alloc (.cells c.cells 35)).alloc (.cells (cellsT (a, (d, 8))) 31)).alloc (.cells Kx.zero.cells 35))
    have D := Lib.hid (St.start w c (a, (d, 8)))
    generalize ((w.alloc (.cells c.cells 35)).alloc (.cells (cellsT (a, (d, 8))) 31)).alloc (.cells Kx.zero.cells 35) = V at *
    have ct := D.out.t0.cell 0 (.int .i64 8) rfl
    have hlt := D.out.r0.lt
    go_wp2_with (first | (refine wpList_loadX (b := w.heap.size) (m := c) rfl _ rfl rfl D.out.s0 ?_) | (refine Bk.wpList_loadK (b := w.heap.size + 1) Tl.shT rfl _ rfl rfl D.out.t0 rfl ?_))
    refine (P1.out _ (HT.out.below D.out.bel)).mono ?_
    rintro e w1 ⟨qa, qk, l, rfl, hp, hm, hb⟩
    have D := Lib.hid (D.out.call hb)
    clear hb P1 ct
    go_wp2_with (first | (refine wpList_storeX (b := w.heap.size + 1 + 1) (m := Kx.zero) (m' := q.1) rfl _ _ rfl rfl rfl D.out.r0 ?_))
    exact bodyPost_ret (v := .tuple #[.agg (Kx.cells q.1), .slice qa l.length qk, .int .i64 q.2.2]) (results_three rfl _ _ (w.heap.size + 1 + 1) _ rfl (loadVarK shX (D.out.r0.put (Kx.cells q.1)) rfl) (.slice qa l.length qk) rfl (.int .i64 q.2.2) rfl) rfl (AnsC.on hp hm D.out.bel (by omega) (by omega))
set_option maxHeartbeats 6400000 in
set_option maxRecDepth 100000 in
theorem take_f (c : Kx) (a t : Int) (d : ByteArray) (w : World) (hs : d.size ≤ 100000) (h : t = 2 ∨ t = 3 ∨ t = 4 ∨ t = 5) (ht : Tab w) : Calls Tryz.prog 17 #[.agg c.cells, .agg (cellsT (a, (d, t)))] w (AnsC (one c t d) w) := by
  have P1 := Lib.hid (fun V (y : Tab V) => G6.get_own t a d V (by omega) (by omega) hs y)
  have HY := Lib.hid (one_f (t := t) (by omega) (by omega) c d)
  have HC := Lib.hid (show (outF t d).2.1 = true → (outF t d).2.2 = 0 by rcases G1.out_cases (t := t) (d := d) (by omega) (by omega) with ⟨e, h⟩ | ⟨r, h, _⟩ <;> rw [h] <;> simp)
  have HLL := Lib.hid ((G1.out_len t d (by omega) (by omega)).2.1)
  generalize outF t d = p at *
  clear hs
  rcases h with rfl | rfl | rfl | rfl
  · have HT := Lib.hid ht
    clear ht
    go_enter Tryz.func17, Tryz.ntmps17
    go_upto_region 1 with fail
    change Code.wp _ _ _ _ (((w.alloc (.cells c.cells 35)).alloc (.cells (cellsT (a, (d, 2))) 31)).alloc (.cells Kx.zero.cells 35))
    have D := Lib.hid (St.start w c (a, (d, 2)))
    generalize ((w.alloc (.cells c.cells 35)).alloc (.cells (cellsT (a, (d, 2))) 31)).alloc (.cells Kx.zero.cells 35) = V at *
    have ct := D.out.t0.cell 0 (.int .i64 2) rfl
    have hlt := D.out.r0.lt
    go_wp2_with (first | (refine Bk.wpList_loadK (b := w.heap.size + 1) Tl.shT rfl _ rfl rfl D.out.t0 rfl ?_))
    refine (P1.out _ (HT.out.below D.out.bel)).mono ?_
    intro e w1 ha
    obtain ⟨n, rfl, hn, hl, hb⟩ := AnsB.parts ha
    have D := Lib.hid (D.out.call hb)
    have hz1 := hb.size
    have HN := Lib.hid hn
    have hnl := (show n.ll = [] by rw [show n = _ from hn]; exact HLL.out)
    clear hb ha ct P1 hn
    go_upto_region 10 with (refine wpList_storeM (b := w1.heap.size) (m := M.zero) (m' := n) rfl _ _ rfl rfl rfl (Bx.new w1 M.zero) ?_)
    change Code.wp _ _ _ _ ((w1.alloc (.cells M.zero.cells 43)).setRow w1.heap.size n.cells)
    rw [World.setRow_alloc_new]
    have bel := balloc (Below.refl w1.heap.size w1) (.cells n.cells 43)
    have D := Lib.hid (D.out.call bel)
    have HL := Lib.hid (hl.below bel)
    have X0 := Lib.hid (Bx.new w1 n)
    have hz2 := bel.size
    clear bel hl
    generalize w1.alloc (.cells n.cells 43) = V6 at *
    refine wp_region_held_drew (S := fun X => Bk 35 X w.heap.size c.cells ∧ Bx X w1.heap.size n) (by kernel_rfl) ⟨D.out.s0, X0.out⟩ (fun hS => ?_)
    have R0 := Lib.hid (show Bk 35 V6.drew (w.heap.size + 1 + 1) Kx.zero.cells from D.out.r0)
    have HB := Lib.hid D.out.bel.drew
    have HL := Lib.hid (HL.out.below (Below.refl _ V6).drew)
    have hzV : V.heap.size ≤ V6.drew.heap.size := by show V.heap.size ≤ V6.heap.size; omega
    have hg2 : w.heap.size + 1 + 1 < w1.heap.size := by omega
    clear D X0 hz2
    generalize V6.drew = Z0 at *
    refine H.tk (i := 0) (v := .agg c.cells) ?h0x1 hS ?_
    case h0x1 => exact (fun w hw => run_loadK shX (x := .tmp 2) rfl rfl hw.1 rfl)
    try simp only [Act.put, List.setIfInBounds_toArray, List.set_cons_zero, List.set_cons_succ]
    refine H.tk (i := 1) (v := .agg n.cells) ?h1x2 hS ?_
    case h1x2 => exact (fun w hw => run_loadM (x := .tmp 7) rfl rfl hw.2)
    try simp only [Act.put, List.setIfInBounds_toArray, List.set_cons_zero, List.set_cons_succ]
    refine H.tk (i := 2) (v := .bool p.2.1) ?h2x3 hS ?_
    case h2x3 => exact (fun w hw => by go_simp)
    try simp only [Act.put, List.setIfInBounds_toArray, List.set_cons_zero, List.set_cons_succ]
    refine H.tk (i := 4) (v := .int .i64 p.2.2) ?h4x4 hS ?_
    case h4x4 => exact (fun w hw => by go_simp)
    try simp only [Act.put, List.setIfInBounds_toArray, List.set_cons_zero, List.set_cons_succ]
    refine H.one (i := 3) (by simp only [List.getElem?_toArray, List.getElem?_cons_succ, List.getElem?_cons_zero]; rfl) (by kernel_rfl) (by kernel_rfl) (fun K hK => ?_)
    go_simp
    refine (told_any n p.2.1 Z0 hnl HL.out hzV).mono ?_
    rintro e X1 ⟨qa, qk, l2, rfl, hl2, hm, hb⟩
    refine hK.out _ _ ⟨hS.1.below hb, hS.2.below hb⟩ ?_
    clear hK K
    have hS := And.intro (hS.1.below hb) (hS.2.below hb)
    have R0 := Lib.hid (R0.out.below hb)
    have HB := Lib.hid (bcall HB.out hb)
    have HM := Lib.hid hm
    have HQ := Lib.hid hl2
    clear hb hm hl2
    try simp only [Act.put, List.setIfInBounds_toArray, List.set_cons_zero, List.set_cons_succ]
    refine H.one (i := 5) (by simp only [List.getElem?_toArray, List.getElem?_cons_succ, List.getElem?_cons_zero]; rfl) (by kernel_rfl) (by kernel_rfl) (fun K hK => ?_)
    refine wp_store_row 35 _ _ rfl (w.heap.size + 1 + 1) c.cells rfl rfl 35 Kx.zero.cells R0.out infoX rfl (oneX c) ?_
    refine hK.out _ _ ⟨hS.1.row (by omega) _, Bx.row hS.2 (by omega) _⟩ ?_
    clear hK K
    have hS := And.intro (hS.1.row (g := w.heap.size + 1 + 1) (by omega) c.cells) (Bx.row hS.2 (g := w.heap.size + 1 + 1) (by omega) c.cells)
    try simp only [Act.put]
    refine H.tk (i := 6) (v := .slice qa l2.length qk) ?h6x5 hS ?_
    case h6x5 => exact (fun w hw => by go_simp)
    try simp only [Act.put, List.setIfInBounds_toArray, List.set_cons_zero, List.set_cons_succ]
    refine H.tk (i := 7) (v := .int .i64 p.2.2) ?h7x6 hS ?_
    case h7x6 => exact (fun w hw => by go_simp)
    try simp only [Act.put, List.setIfInBounds_toArray, List.set_cons_zero, List.set_cons_succ]
    refine wpAnyH_done (by kernel_rfl) ?_ _
    go_wp2_with fail
    exact bodyPost_ret (v := .tuple #[.agg (Kx.cells c), .slice qa l2.length qk, .int .i64 p.2.2]) (results_three rfl _ _ (w.heap.size + 1 + 1) _ rfl (loadVarK shX (R0.out.put (Kx.cells c)) rfl) (.slice qa l2.length qk) rfl (.int .i64 p.2.2) rfl) rfl (by rw [HY.out]; exact AnsC.told HN.out HC.out HQ.out (HM.out.under (by omega) _) (by omega) (Box.below_setRow HB.out (by omega) _))
  · have HT := Lib.hid ht
    clear ht
    go_enter Tryz.func17, Tryz.ntmps17
    go_upto_region 1 with fail
    change Code.wp _ _ _ _ (((w.alloc (.cells c.cells 35)).alloc (.cells (cellsT (a, (d, 3))) 31)).alloc (.cells Kx.zero.cells 35))
    have D := Lib.hid (St.start w c (a, (d, 3)))
    generalize ((w.alloc (.cells c.cells 35)).alloc (.cells (cellsT (a, (d, 3))) 31)).alloc (.cells Kx.zero.cells 35) = V at *
    have ct := D.out.t0.cell 0 (.int .i64 3) rfl
    have hlt := D.out.r0.lt
    go_wp2_with (first | (refine Bk.wpList_loadK (b := w.heap.size + 1) Tl.shT rfl _ rfl rfl D.out.t0 rfl ?_))
    refine (P1.out _ (HT.out.below D.out.bel)).mono ?_
    intro e w1 ha
    obtain ⟨n, rfl, hn, hl, hb⟩ := AnsB.parts ha
    have D := Lib.hid (D.out.call hb)
    have hz1 := hb.size
    have HN := Lib.hid hn
    have hnl := (show n.ll = [] by rw [show n = _ from hn]; exact HLL.out)
    clear hb ha ct P1 hn
    go_upto_region 10 with (refine wpList_storeM (b := w1.heap.size) (m := M.zero) (m' := n) rfl _ _ rfl rfl rfl (Bx.new w1 M.zero) ?_)
    change Code.wp _ _ _ _ ((w1.alloc (.cells M.zero.cells 43)).setRow w1.heap.size n.cells)
    rw [World.setRow_alloc_new]
    have bel := balloc (Below.refl w1.heap.size w1) (.cells n.cells 43)
    have D := Lib.hid (D.out.call bel)
    have HL := Lib.hid (hl.below bel)
    have X0 := Lib.hid (Bx.new w1 n)
    have hz2 := bel.size
    clear bel hl
    generalize w1.alloc (.cells n.cells 43) = V6 at *
    refine wp_region_held_drew (S := fun X => Bk 35 X w.heap.size c.cells ∧ Bx X w1.heap.size n) (by kernel_rfl) ⟨D.out.s0, X0.out⟩ (fun hS => ?_)
    have R0 := Lib.hid (show Bk 35 V6.drew (w.heap.size + 1 + 1) Kx.zero.cells from D.out.r0)
    have HB := Lib.hid D.out.bel.drew
    have HL := Lib.hid (HL.out.below (Below.refl _ V6).drew)
    have hzV : V.heap.size ≤ V6.drew.heap.size := by show V.heap.size ≤ V6.heap.size; omega
    have hg2 : w.heap.size + 1 + 1 < w1.heap.size := by omega
    clear D X0 hz2
    generalize V6.drew = Z0 at *
    refine H.tk (i := 0) (v := .agg c.cells) ?h0x1 hS ?_
    case h0x1 => exact (fun w hw => run_loadK shX (x := .tmp 2) rfl rfl hw.1 rfl)
    try simp only [Act.put, List.setIfInBounds_toArray, List.set_cons_zero, List.set_cons_succ]
    refine H.tk (i := 1) (v := .agg n.cells) ?h1x2 hS ?_
    case h1x2 => exact (fun w hw => run_loadM (x := .tmp 7) rfl rfl hw.2)
    try simp only [Act.put, List.setIfInBounds_toArray, List.set_cons_zero, List.set_cons_succ]
    refine H.tk (i := 2) (v := .bool p.2.1) ?h2x3 hS ?_
    case h2x3 => exact (fun w hw => by go_simp)
    try simp only [Act.put, List.setIfInBounds_toArray, List.set_cons_zero, List.set_cons_succ]
    refine H.tk (i := 4) (v := .int .i64 p.2.2) ?h4x4 hS ?_
    case h4x4 => exact (fun w hw => by go_simp)
    try simp only [Act.put, List.setIfInBounds_toArray, List.set_cons_zero, List.set_cons_succ]
    refine H.one (i := 3) (by simp only [List.getElem?_toArray, List.getElem?_cons_succ, List.getElem?_cons_zero]; rfl) (by kernel_rfl) (by kernel_rfl) (fun K hK => ?_)
    go_simp
    refine (told_any n p.2.1 Z0 hnl HL.out hzV).mono ?_
    rintro e X1 ⟨qa, qk, l2, rfl, hl2, hm, hb⟩
    refine hK.out _ _ ⟨hS.1.below hb, hS.2.below hb⟩ ?_
    clear hK K
    have hS := And.intro (hS.1.below hb) (hS.2.below hb)
    have R0 := Lib.hid (R0.out.below hb)
    have HB := Lib.hid (bcall HB.out hb)
    have HM := Lib.hid hm
    have HQ := Lib.hid hl2
    clear hb hm hl2
    try simp only [Act.put, List.setIfInBounds_toArray, List.set_cons_zero, List.set_cons_succ]
    refine H.one (i := 5) (by simp only [List.getElem?_toArray, List.getElem?_cons_succ, List.getElem?_cons_zero]; rfl) (by kernel_rfl) (by kernel_rfl) (fun K hK => ?_)
    refine wp_store_row 35 _ _ rfl (w.heap.size + 1 + 1) c.cells rfl rfl 35 Kx.zero.cells R0.out infoX rfl (oneX c) ?_
    refine hK.out _ _ ⟨hS.1.row (by omega) _, Bx.row hS.2 (by omega) _⟩ ?_
    clear hK K
    have hS := And.intro (hS.1.row (g := w.heap.size + 1 + 1) (by omega) c.cells) (Bx.row hS.2 (g := w.heap.size + 1 + 1) (by omega) c.cells)
    try simp only [Act.put]
    refine H.tk (i := 6) (v := .slice qa l2.length qk) ?h6x5 hS ?_
    case h6x5 => exact (fun w hw => by go_simp)
    try simp only [Act.put, List.setIfInBounds_toArray, List.set_cons_zero, List.set_cons_succ]
    refine H.tk (i := 7) (v := .int .i64 p.2.2) ?h7x6 hS ?_
    case h7x6 => exact (fun w hw => by go_simp)
    try simp only [Act.put, List.setIfInBounds_toArray, List.set_cons_zero, List.set_cons_succ]
    refine wpAnyH_done (by kernel_rfl) ?_ _
    go_wp2_with fail
    exact bodyPost_ret (v := .tuple #[.agg (Kx.cells c), .slice qa l2.length qk, .int .i64 p.2.2]) (results_three rfl _ _ (w.heap.size + 1 + 1) _ rfl (loadVarK shX (R0.out.put (Kx.cells c)) rfl) (.slice qa l2.length qk) rfl (.int .i64 p.2.2) rfl) rfl (by rw [HY.out]; exact AnsC.told HN.out HC.out HQ.out (HM.out.under (by omega) _) (by omega) (Box.below_setRow HB.out (by omega) _))
  · have HT := Lib.hid ht
    clear ht
    go_enter Tryz.func17, Tryz.ntmps17
    go_upto_region 1 with fail
    change Code.wp _ _ _ _ (((w.alloc (.cells c.cells 35)).alloc (.cells (cellsT (a, (d, 4))) 31)).alloc (.cells Kx.zero.cells 35))
    have D := Lib.hid (St.start w c (a, (d, 4)))
    generalize ((w.alloc (.cells c.cells 35)).alloc (.cells (cellsT (a, (d, 4))) 31)).alloc (.cells Kx.zero.cells 35) = V at *
    have ct := D.out.t0.cell 0 (.int .i64 4) rfl
    have hlt := D.out.r0.lt
    go_wp2_with (first | (refine Bk.wpList_loadK (b := w.heap.size + 1) Tl.shT rfl _ rfl rfl D.out.t0 rfl ?_))
    refine (P1.out _ (HT.out.below D.out.bel)).mono ?_
    intro e w1 ha
    obtain ⟨n, rfl, hn, hl, hb⟩ := AnsB.parts ha
    have D := Lib.hid (D.out.call hb)
    have hz1 := hb.size
    have HN := Lib.hid hn
    have hnl := (show n.ll = [] by rw [show n = _ from hn]; exact HLL.out)
    clear hb ha ct P1 hn
    go_upto_region 10 with (refine wpList_storeM (b := w1.heap.size) (m := M.zero) (m' := n) rfl _ _ rfl rfl rfl (Bx.new w1 M.zero) ?_)
    change Code.wp _ _ _ _ ((w1.alloc (.cells M.zero.cells 43)).setRow w1.heap.size n.cells)
    rw [World.setRow_alloc_new]
    have bel := balloc (Below.refl w1.heap.size w1) (.cells n.cells 43)
    have D := Lib.hid (D.out.call bel)
    have HL := Lib.hid (hl.below bel)
    have X0 := Lib.hid (Bx.new w1 n)
    have hz2 := bel.size
    clear bel hl
    generalize w1.alloc (.cells n.cells 43) = V6 at *
    refine wp_region_held_drew (S := fun X => Bk 35 X w.heap.size c.cells ∧ Bx X w1.heap.size n) (by kernel_rfl) ⟨D.out.s0, X0.out⟩ (fun hS => ?_)
    have R0 := Lib.hid (show Bk 35 V6.drew (w.heap.size + 1 + 1) Kx.zero.cells from D.out.r0)
    have HB := Lib.hid D.out.bel.drew
    have HL := Lib.hid (HL.out.below (Below.refl _ V6).drew)
    have hzV : V.heap.size ≤ V6.drew.heap.size := by show V.heap.size ≤ V6.heap.size; omega
    have hg2 : w.heap.size + 1 + 1 < w1.heap.size := by omega
    clear D X0 hz2
    generalize V6.drew = Z0 at *
    refine H.tk (i := 0) (v := .agg c.cells) ?h0x1 hS ?_
    case h0x1 => exact (fun w hw => run_loadK shX (x := .tmp 2) rfl rfl hw.1 rfl)
    try simp only [Act.put, List.setIfInBounds_toArray, List.set_cons_zero, List.set_cons_succ]
    refine H.tk (i := 1) (v := .agg n.cells) ?h1x2 hS ?_
    case h1x2 => exact (fun w hw => run_loadM (x := .tmp 7) rfl rfl hw.2)
    try simp only [Act.put, List.setIfInBounds_toArray, List.set_cons_zero, List.set_cons_succ]
    refine H.tk (i := 2) (v := .bool p.2.1) ?h2x3 hS ?_
    case h2x3 => exact (fun w hw => by go_simp)
    try simp only [Act.put, List.setIfInBounds_toArray, List.set_cons_zero, List.set_cons_succ]
    refine H.tk (i := 4) (v := .int .i64 p.2.2) ?h4x4 hS ?_
    case h4x4 => exact (fun w hw => by go_simp)
    try simp only [Act.put, List.setIfInBounds_toArray, List.set_cons_zero, List.set_cons_succ]
    refine H.one (i := 3) (by simp only [List.getElem?_toArray, List.getElem?_cons_succ, List.getElem?_cons_zero]; rfl) (by kernel_rfl) (by kernel_rfl) (fun K hK => ?_)
    go_simp
    refine (told_any n p.2.1 Z0 hnl HL.out hzV).mono ?_
    rintro e X1 ⟨qa, qk, l2, rfl, hl2, hm, hb⟩
    refine hK.out _ _ ⟨hS.1.below hb, hS.2.below hb⟩ ?_
    clear hK K
    have hS := And.intro (hS.1.below hb) (hS.2.below hb)
    have R0 := Lib.hid (R0.out.below hb)
    have HB := Lib.hid (bcall HB.out hb)
    have HM := Lib.hid hm
    have HQ := Lib.hid hl2
    clear hb hm hl2
    try simp only [Act.put, List.setIfInBounds_toArray, List.set_cons_zero, List.set_cons_succ]
    refine H.one (i := 5) (by simp only [List.getElem?_toArray, List.getElem?_cons_succ, List.getElem?_cons_zero]; rfl) (by kernel_rfl) (by kernel_rfl) (fun K hK => ?_)
    refine wp_store_row 35 _ _ rfl (w.heap.size + 1 + 1) c.cells rfl rfl 35 Kx.zero.cells R0.out infoX rfl (oneX c) ?_
    refine hK.out _ _ ⟨hS.1.row (by omega) _, Bx.row hS.2 (by omega) _⟩ ?_
    clear hK K
    have hS := And.intro (hS.1.row (g := w.heap.size + 1 + 1) (by omega) c.cells) (Bx.row hS.2 (g := w.heap.size + 1 + 1) (by omega) c.cells)
    try simp only [Act.put]
    refine H.tk (i := 6) (v := .slice qa l2.length qk) ?h6x5 hS ?_
    case h6x5 => exact (fun w hw => by go_simp)
    try simp only [Act.put, List.setIfInBounds_toArray, List.set_cons_zero, List.set_cons_succ]
    refine H.tk (i := 7) (v := .int .i64 p.2.2) ?h7x6 hS ?_
    case h7x6 => exact (fun w hw => by go_simp)
    try simp only [Act.put, List.setIfInBounds_toArray, List.set_cons_zero, List.set_cons_succ]
    refine wpAnyH_done (by kernel_rfl) ?_ _
    go_wp2_with fail
    exact bodyPost_ret (v := .tuple #[.agg (Kx.cells c), .slice qa l2.length qk, .int .i64 p.2.2]) (results_three rfl _ _ (w.heap.size + 1 + 1) _ rfl (loadVarK shX (R0.out.put (Kx.cells c)) rfl) (.slice qa l2.length qk) rfl (.int .i64 p.2.2) rfl) rfl (by rw [HY.out]; exact AnsC.told HN.out HC.out HQ.out (HM.out.under (by omega) _) (by omega) (Box.below_setRow HB.out (by omega) _))
  · have HT := Lib.hid ht
    clear ht
    go_enter Tryz.func17, Tryz.ntmps17
    go_upto_region 1 with fail
    change Code.wp _ _ _ _ (((w.alloc (.cells c.cells 35)).alloc (.cells (cellsT (a, (d, 5))) 31)).alloc (.cells Kx.zero.cells 35))
    have D := Lib.hid (St.start w c (a, (d, 5)))
    generalize ((w.alloc (.cells c.cells 35)).alloc (.cells (cellsT (a, (d, 5))) 31)).alloc (.cells Kx.zero.cells 35) = V at *
    have ct := D.out.t0.cell 0 (.int .i64 5) rfl
    have hlt := D.out.r0.lt
    go_wp2_with (first | (refine Bk.wpList_loadK (b := w.heap.size + 1) Tl.shT rfl _ rfl rfl D.out.t0 rfl ?_))
    refine (P1.out _ (HT.out.below D.out.bel)).mono ?_
    intro e w1 ha
    obtain ⟨n, rfl, hn, hl, hb⟩ := AnsB.parts ha
    have D := Lib.hid (D.out.call hb)
    have hz1 := hb.size
    have HN := Lib.hid hn
    have hnl := (show n.ll = [] by rw [show n = _ from hn]; exact HLL.out)
    clear hb ha ct P1 hn
    go_upto_region 10 with (refine wpList_storeM (b := w1.heap.size) (m := M.zero) (m' := n) rfl _ _ rfl rfl rfl (Bx.new w1 M.zero) ?_)
    change Code.wp _ _ _ _ ((w1.alloc (.cells M.zero.cells 43)).setRow w1.heap.size n.cells)
    rw [World.setRow_alloc_new]
    have bel := balloc (Below.refl w1.heap.size w1) (.cells n.cells 43)
    have D := Lib.hid (D.out.call bel)
    have HL := Lib.hid (hl.below bel)
    have X0 := Lib.hid (Bx.new w1 n)
    have hz2 := bel.size
    clear bel hl
    generalize w1.alloc (.cells n.cells 43) = V6 at *
    refine wp_region_held_drew (S := fun X => Bk 35 X w.heap.size c.cells ∧ Bx X w1.heap.size n) (by kernel_rfl) ⟨D.out.s0, X0.out⟩ (fun hS => ?_)
    have R0 := Lib.hid (show Bk 35 V6.drew (w.heap.size + 1 + 1) Kx.zero.cells from D.out.r0)
    have HB := Lib.hid D.out.bel.drew
    have HL := Lib.hid (HL.out.below (Below.refl _ V6).drew)
    have hzV : V.heap.size ≤ V6.drew.heap.size := by show V.heap.size ≤ V6.heap.size; omega
    have hg2 : w.heap.size + 1 + 1 < w1.heap.size := by omega
    clear D X0 hz2
    generalize V6.drew = Z0 at *
    refine H.tk (i := 0) (v := .agg c.cells) ?h0x1 hS ?_
    case h0x1 => exact (fun w hw => run_loadK shX (x := .tmp 2) rfl rfl hw.1 rfl)
    try simp only [Act.put, List.setIfInBounds_toArray, List.set_cons_zero, List.set_cons_succ]
    refine H.tk (i := 1) (v := .agg n.cells) ?h1x2 hS ?_
    case h1x2 => exact (fun w hw => run_loadM (x := .tmp 7) rfl rfl hw.2)
    try simp only [Act.put, List.setIfInBounds_toArray, List.set_cons_zero, List.set_cons_succ]
    refine H.tk (i := 2) (v := .bool p.2.1) ?h2x3 hS ?_
    case h2x3 => exact (fun w hw => by go_simp)
    try simp only [Act.put, List.setIfInBounds_toArray, List.set_cons_zero, List.set_cons_succ]
    refine H.tk (i := 4) (v := .int .i64 p.2.2) ?h4x4 hS ?_
    case h4x4 => exact (fun w hw => by go_simp)
    try simp only [Act.put, List.setIfInBounds_toArray, List.set_cons_zero, List.set_cons_succ]
    refine H.one (i := 3) (by simp only [List.getElem?_toArray, List.getElem?_cons_succ, List.getElem?_cons_zero]; rfl) (by kernel_rfl) (by kernel_rfl) (fun K hK => ?_)
    go_simp
    refine (told_any n p.2.1 Z0 hnl HL.out hzV).mono ?_
    rintro e X1 ⟨qa, qk, l2, rfl, hl2, hm, hb⟩
    refine hK.out _ _ ⟨hS.1.below hb, hS.2.below hb⟩ ?_
    clear hK K
    have hS := And.intro (hS.1.below hb) (hS.2.below hb)
    have R0 := Lib.hid (R0.out.below hb)
    have HB := Lib.hid (bcall HB.out hb)
    have HM := Lib.hid hm
    have HQ := Lib.hid hl2
    clear hb hm hl2
    try simp only [Act.put, List.setIfInBounds_toArray, List.set_cons_zero, List.set_cons_succ]
    refine H.one (i := 5) (by simp only [List.getElem?_toArray, List.getElem?_cons_succ, List.getElem?_cons_zero]; rfl) (by kernel_rfl) (by kernel_rfl) (fun K hK => ?_)
    refine wp_store_row 35 _ _ rfl (w.heap.size + 1 + 1) c.cells rfl rfl 35 Kx.zero.cells R0.out infoX rfl (oneX c) ?_
    refine hK.out _ _ ⟨hS.1.row (by omega) _, Bx.row hS.2 (by omega) _⟩ ?_
    clear hK K
    have hS := And.intro (hS.1.row (g := w.heap.size + 1 + 1) (by omega) c.cells) (Bx.row hS.2 (g := w.heap.size + 1 + 1) (by omega) c.cells)
    try simp only [Act.put]
    refine H.tk (i := 6) (v := .slice qa l2.length qk) ?h6x5 hS ?_
    case h6x5 => exact (fun w hw => by go_simp)
    try simp only [Act.put, List.setIfInBounds_toArray, List.set_cons_zero, List.set_cons_succ]
    refine H.tk (i := 7) (v := .int .i64 p.2.2) ?h7x6 hS ?_
    case h7x6 => exact (fun w hw => by go_simp)
    try simp only [Act.put, List.setIfInBounds_toArray, List.set_cons_zero, List.set_cons_succ]
    refine wpAnyH_done (by kernel_rfl) ?_ _
    go_wp2_with fail
    exact bodyPost_ret (v := .tuple #[.agg (Kx.cells c), .slice qa l2.length qk, .int .i64 p.2.2]) (results_three rfl _ _ (w.heap.size + 1 + 1) _ rfl (loadVarK shX (R0.out.put (Kx.cells c)) rfl) (.slice qa l2.length qk) rfl (.int .i64 p.2.2) rfl) rfl (by rw [HY.out]; exact AnsC.told HN.out HC.out HQ.out (HM.out.under (by omega) _) (by omega) (Box.below_setRow HB.out (by omega) _))
set_option maxHeartbeats 6400000 in
set_option maxRecDepth 100000 in
theorem take_j (c : Kx) (a t : Int) (d : ByteArray) (w : World) (hs : d.size ≤ 100000) (h : t = 9 ∨ t = 10) (ht : Tab w) : Calls Tryz.prog 17 #[.agg c.cells, .agg (cellsT (a, (d, t)))] w (AnsC (one c t d) w) := by
  have P1 := Lib.hid (fun V (y : Tab V) => J6.get_own t a d V h hs y)
  have HY := Lib.hid (one_j (t := t) h c d)
  have HC := Lib.hid (show (outJ t d).2.1 = true → (outJ t d).2.2 = 0 by rcases J1.out_cases (t := t) (d := d) h with ⟨e, h⟩ | ⟨x, _, _, _, h, _⟩ <;> rw [h] <;> simp)
  have HLL := Lib.hid ((J1.out_len t d h).2.1)
  generalize outJ t d = p at *
  clear hs
  rcases h with rfl | rfl
  · have HT := Lib.hid ht
    clear ht
    go_enter Tryz.func17, Tryz.ntmps17
    go_upto_region 1 with fail
    change Code.wp _ _ _ _ (((w.alloc (.cells c.cells 35)).alloc (.cells (cellsT (a, (d, 9))) 31)).alloc (.cells Kx.zero.cells 35))
    have D := Lib.hid (St.start w c (a, (d, 9)))
    generalize ((w.alloc (.cells c.cells 35)).alloc (.cells (cellsT (a, (d, 9))) 31)).alloc (.cells Kx.zero.cells 35) = V at *
    have ct := D.out.t0.cell 0 (.int .i64 9) rfl
    have hlt := D.out.r0.lt
    go_wp2_with (first | (refine Bk.wpList_loadK (b := w.heap.size + 1) Tl.shT rfl _ rfl rfl D.out.t0 rfl ?_))
    refine (P1.out _ (HT.out.below D.out.bel)).mono ?_
    intro e w1 ha
    obtain ⟨n, rfl, hn, hl, hb⟩ := AnsB.parts ha
    have D := Lib.hid (D.out.call hb)
    have hz1 := hb.size
    have HN := Lib.hid hn
    have hnl := (show n.ll = [] by rw [show n = _ from hn]; exact HLL.out)
    clear hb ha ct P1 hn
    go_upto_region 18 with (refine wpList_storeM (b := w1.heap.size) (m := M.zero) (m' := n) rfl _ _ rfl rfl rfl (Bx.new w1 M.zero) ?_)
    change Code.wp _ _ _ _ ((w1.alloc (.cells M.zero.cells 43)).setRow w1.heap.size n.cells)
    rw [World.setRow_alloc_new]
    have bel := balloc (Below.refl w1.heap.size w1) (.cells n.cells 43)
    have D := Lib.hid (D.out.call bel)
    have HL := Lib.hid (hl.below bel)
    have X0 := Lib.hid (Bx.new w1 n)
    have hz2 := bel.size
    clear bel hl
    generalize w1.alloc (.cells n.cells 43) = V6 at *
    refine wp_region_held_drew (S := fun X => Bk 35 X w.heap.size c.cells ∧ Bx X w1.heap.size n) (by kernel_rfl) ⟨D.out.s0, X0.out⟩ (fun hS => ?_)
    have R0 := Lib.hid (show Bk 35 V6.drew (w.heap.size + 1 + 1) Kx.zero.cells from D.out.r0)
    have HB := Lib.hid D.out.bel.drew
    have HL := Lib.hid (HL.out.below (Below.refl _ V6).drew)
    have hzV : V.heap.size ≤ V6.drew.heap.size := by show V.heap.size ≤ V6.heap.size; omega
    have hg2 : w.heap.size + 1 + 1 < w1.heap.size := by omega
    clear D X0 hz2
    generalize V6.drew = Z0 at *
    refine H.tk (i := 0) (v := .agg c.cells) ?h0x1 hS ?_
    case h0x1 => exact (fun w hw => run_loadK shX (x := .tmp 2) rfl rfl hw.1 rfl)
    try simp only [Act.put, List.setIfInBounds_toArray, List.set_cons_zero, List.set_cons_succ]
    refine H.tk (i := 1) (v := .agg n.cells) ?h1x2 hS ?_
    case h1x2 => exact (fun w hw => run_loadM (x := .tmp 10) rfl rfl hw.2)
    try simp only [Act.put, List.setIfInBounds_toArray, List.set_cons_zero, List.set_cons_succ]
    refine H.tk (i := 2) (v := .bool p.2.1) ?h2x3 hS ?_
    case h2x3 => exact (fun w hw => by go_simp)
    try simp only [Act.put, List.setIfInBounds_toArray, List.set_cons_zero, List.set_cons_succ]
    refine H.tk (i := 4) (v := .int .i64 p.2.2) ?h4x4 hS ?_
    case h4x4 => exact (fun w hw => by go_simp)
    try simp only [Act.put, List.setIfInBounds_toArray, List.set_cons_zero, List.set_cons_succ]
    refine H.one (i := 3) (by simp only [List.getElem?_toArray, List.getElem?_cons_succ, List.getElem?_cons_zero]; rfl) (by kernel_rfl) (by kernel_rfl) (fun K hK => ?_)
    go_simp
    refine (told_any n p.2.1 Z0 hnl HL.out hzV).mono ?_
    rintro e X1 ⟨qa, qk, l2, rfl, hl2, hm, hb⟩
    refine hK.out _ _ ⟨hS.1.below hb, hS.2.below hb⟩ ?_
    clear hK K
    have hS := And.intro (hS.1.below hb) (hS.2.below hb)
    have R0 := Lib.hid (R0.out.below hb)
    have HB := Lib.hid (bcall HB.out hb)
    have HM := Lib.hid hm
    have HQ := Lib.hid hl2
    clear hb hm hl2
    try simp only [Act.put, List.setIfInBounds_toArray, List.set_cons_zero, List.set_cons_succ]
    refine H.one (i := 5) (by simp only [List.getElem?_toArray, List.getElem?_cons_succ, List.getElem?_cons_zero]; rfl) (by kernel_rfl) (by kernel_rfl) (fun K hK => ?_)
    refine wp_store_row 35 _ _ rfl (w.heap.size + 1 + 1) c.cells rfl rfl 35 Kx.zero.cells R0.out infoX rfl (oneX c) ?_
    refine hK.out _ _ ⟨hS.1.row (by omega) _, Bx.row hS.2 (by omega) _⟩ ?_
    clear hK K
    have hS := And.intro (hS.1.row (g := w.heap.size + 1 + 1) (by omega) c.cells) (Bx.row hS.2 (g := w.heap.size + 1 + 1) (by omega) c.cells)
    try simp only [Act.put]
    refine H.tk (i := 6) (v := .slice qa l2.length qk) ?h6x5 hS ?_
    case h6x5 => exact (fun w hw => by go_simp)
    try simp only [Act.put, List.setIfInBounds_toArray, List.set_cons_zero, List.set_cons_succ]
    refine H.tk (i := 7) (v := .int .i64 p.2.2) ?h7x6 hS ?_
    case h7x6 => exact (fun w hw => by go_simp)
    try simp only [Act.put, List.setIfInBounds_toArray, List.set_cons_zero, List.set_cons_succ]
    refine wpAnyH_done (by kernel_rfl) ?_ _
    go_wp2_with fail
    exact bodyPost_ret (v := .tuple #[.agg (Kx.cells c), .slice qa l2.length qk, .int .i64 p.2.2]) (results_three rfl _ _ (w.heap.size + 1 + 1) _ rfl (loadVarK shX (R0.out.put (Kx.cells c)) rfl) (.slice qa l2.length qk) rfl (.int .i64 p.2.2) rfl) rfl (by rw [HY.out]; exact AnsC.told HN.out HC.out HQ.out (HM.out.under (by omega) _) (by omega) (Box.below_setRow HB.out (by omega) _))
  · have HT := Lib.hid ht
    clear ht
    go_enter Tryz.func17, Tryz.ntmps17
    go_upto_region 1 with fail
    change Code.wp _ _ _ _ (((w.alloc (.cells c.cells 35)).alloc (.cells (cellsT (a, (d, 10))) 31)).alloc (.cells Kx.zero.cells 35))
    have D := Lib.hid (St.start w c (a, (d, 10)))
    generalize ((w.alloc (.cells c.cells 35)).alloc (.cells (cellsT (a, (d, 10))) 31)).alloc (.cells Kx.zero.cells 35) = V at *
    have ct := D.out.t0.cell 0 (.int .i64 10) rfl
    have hlt := D.out.r0.lt
    go_wp2_with (first | (refine Bk.wpList_loadK (b := w.heap.size + 1) Tl.shT rfl _ rfl rfl D.out.t0 rfl ?_))
    refine (P1.out _ (HT.out.below D.out.bel)).mono ?_
    intro e w1 ha
    obtain ⟨n, rfl, hn, hl, hb⟩ := AnsB.parts ha
    have D := Lib.hid (D.out.call hb)
    have hz1 := hb.size
    have HN := Lib.hid hn
    have hnl := (show n.ll = [] by rw [show n = _ from hn]; exact HLL.out)
    clear hb ha ct P1 hn
    go_upto_region 18 with (refine wpList_storeM (b := w1.heap.size) (m := M.zero) (m' := n) rfl _ _ rfl rfl rfl (Bx.new w1 M.zero) ?_)
    change Code.wp _ _ _ _ ((w1.alloc (.cells M.zero.cells 43)).setRow w1.heap.size n.cells)
    rw [World.setRow_alloc_new]
    have bel := balloc (Below.refl w1.heap.size w1) (.cells n.cells 43)
    have D := Lib.hid (D.out.call bel)
    have HL := Lib.hid (hl.below bel)
    have X0 := Lib.hid (Bx.new w1 n)
    have hz2 := bel.size
    clear bel hl
    generalize w1.alloc (.cells n.cells 43) = V6 at *
    refine wp_region_held_drew (S := fun X => Bk 35 X w.heap.size c.cells ∧ Bx X w1.heap.size n) (by kernel_rfl) ⟨D.out.s0, X0.out⟩ (fun hS => ?_)
    have R0 := Lib.hid (show Bk 35 V6.drew (w.heap.size + 1 + 1) Kx.zero.cells from D.out.r0)
    have HB := Lib.hid D.out.bel.drew
    have HL := Lib.hid (HL.out.below (Below.refl _ V6).drew)
    have hzV : V.heap.size ≤ V6.drew.heap.size := by show V.heap.size ≤ V6.heap.size; omega
    have hg2 : w.heap.size + 1 + 1 < w1.heap.size := by omega
    clear D X0 hz2
    generalize V6.drew = Z0 at *
    refine H.tk (i := 0) (v := .agg c.cells) ?h0x1 hS ?_
    case h0x1 => exact (fun w hw => run_loadK shX (x := .tmp 2) rfl rfl hw.1 rfl)
    try simp only [Act.put, List.setIfInBounds_toArray, List.set_cons_zero, List.set_cons_succ]
    refine H.tk (i := 1) (v := .agg n.cells) ?h1x2 hS ?_
    case h1x2 => exact (fun w hw => run_loadM (x := .tmp 10) rfl rfl hw.2)
    try simp only [Act.put, List.setIfInBounds_toArray, List.set_cons_zero, List.set_cons_succ]
    refine H.tk (i := 2) (v := .bool p.2.1) ?h2x3 hS ?_
    case h2x3 => exact (fun w hw => by go_simp)
    try simp only [Act.put, List.setIfInBounds_toArray, List.set_cons_zero, List.set_cons_succ]
    refine H.tk (i := 4) (v := .int .i64 p.2.2) ?h4x4 hS ?_
    case h4x4 => exact (fun w hw => by go_simp)
    try simp only [Act.put, List.setIfInBounds_toArray, List.set_cons_zero, List.set_cons_succ]
    refine H.one (i := 3) (by simp only [List.getElem?_toArray, List.getElem?_cons_succ, List.getElem?_cons_zero]; rfl) (by kernel_rfl) (by kernel_rfl) (fun K hK => ?_)
    go_simp
    refine (told_any n p.2.1 Z0 hnl HL.out hzV).mono ?_
    rintro e X1 ⟨qa, qk, l2, rfl, hl2, hm, hb⟩
    refine hK.out _ _ ⟨hS.1.below hb, hS.2.below hb⟩ ?_
    clear hK K
    have hS := And.intro (hS.1.below hb) (hS.2.below hb)
    have R0 := Lib.hid (R0.out.below hb)
    have HB := Lib.hid (bcall HB.out hb)
    have HM := Lib.hid hm
    have HQ := Lib.hid hl2
    clear hb hm hl2
    try simp only [Act.put, List.setIfInBounds_toArray, List.set_cons_zero, List.set_cons_succ]
    refine H.one (i := 5) (by simp only [List.getElem?_toArray, List.getElem?_cons_succ, List.getElem?_cons_zero]; rfl) (by kernel_rfl) (by kernel_rfl) (fun K hK => ?_)
    refine wp_store_row 35 _ _ rfl (w.heap.size + 1 + 1) c.cells rfl rfl 35 Kx.zero.cells R0.out infoX rfl (oneX c) ?_
    refine hK.out _ _ ⟨hS.1.row (by omega) _, Bx.row hS.2 (by omega) _⟩ ?_
    clear hK K
    have hS := And.intro (hS.1.row (g := w.heap.size + 1 + 1) (by omega) c.cells) (Bx.row hS.2 (g := w.heap.size + 1 + 1) (by omega) c.cells)
    try simp only [Act.put]
    refine H.tk (i := 6) (v := .slice qa l2.length qk) ?h6x5 hS ?_
    case h6x5 => exact (fun w hw => by go_simp)
    try simp only [Act.put, List.setIfInBounds_toArray, List.set_cons_zero, List.set_cons_succ]
    refine H.tk (i := 7) (v := .int .i64 p.2.2) ?h7x6 hS ?_
    case h7x6 => exact (fun w hw => by go_simp)
    try simp only [Act.put, List.setIfInBounds_toArray, List.set_cons_zero, List.set_cons_succ]
    refine wpAnyH_done (by kernel_rfl) ?_ _
    go_wp2_with fail
    exact bodyPost_ret (v := .tuple #[.agg (Kx.cells c), .slice qa l2.length qk, .int .i64 p.2.2]) (results_three rfl _ _ (w.heap.size + 1 + 1) _ rfl (loadVarK shX (R0.out.put (Kx.cells c)) rfl) (.slice qa l2.length qk) rfl (.int .i64 p.2.2) rfl) rfl (by rw [HY.out]; exact AnsC.told HN.out HC.out HQ.out (HM.out.under (by omega) _) (by omega) (Box.below_setRow HB.out (by omega) _))
set_option maxHeartbeats 6400000 in
set_option maxRecDepth 100000 in
theorem take_o (c : Kx) (a t : Int) (d : ByteArray) (w : World)  (h : 10 < t) (ht : Tab w) : Calls Tryz.prog 17 #[.agg c.cells, .agg (cellsT (a, (d, t)))] w (AnsC (one c t d) w) := by
  have HY := Lib.hid (one_o (t := t) (.inr h) c d)
  have n0 : (t == 0) = false := by simp; omega
  have n1 : (t == 1) = false := by simp; omega
  have n2 : (t == 2) = false := by simp; omega
  have n3 : (t == 3) = false := by simp; omega
  have n4 : (t == 4) = false := by simp; omega
  have n5 : (t == 5) = false := by simp; omega
  have n6 : (t == 6) = false := by simp; omega
  have n7 : (t == 7) = false := by simp; omega
  have n8 : (t == 8) = false := by simp; omega
  have n9 : (t == 9) = false := by simp; omega
  have n10 : (t == 10) = false := by simp; omega
  clear h
  have HT := Lib.hid ht
  clear ht
  go_enter Tryz.func17, Tryz.ntmps17
  go_upto_region 1 with fail
  change Code.wp _ _ _ _ (((w.alloc (.cells c.cells 35)).alloc (.cells (cellsT (a, (d, t))) 31)).alloc (.cells Kx.zero.cells 35))
  have D := Lib.hid (St.start w c (a, (d, t)))
  generalize ((w.alloc (.cells c.cells 35)).alloc (.cells (cellsT (a, (d, t))) 31)).alloc (.cells Kx.zero.cells 35) = V at *
  have ct := D.out.t0.cell 0 (.int .i64 t) rfl
  have hlt := D.out.r0.lt
  go_upto_region 19 with fail
  refine wp_region_held_drew (S := fun X => Bk 35 X w.heap.size c.cells ∧ Bk 31 X (w.heap.size + 1) (cellsT (a, (d, t)))) (by kernel_rfl) ⟨D.out.s0, D.out.t0⟩ (fun hS => ?_)
  have R0 := Lib.hid (show Bk 35 V.drew (w.heap.size + 1 + 1) Kx.zero.cells from D.out.r0)
  have HB := Lib.hid D.out.bel.drew
  have hzV : w.heap.size + 1 + 1 < V.drew.heap.size := hlt
  clear D hlt ct n0 n1 n2 n3 n4 n5 n6 n7 n8 n9 n10
  generalize V.drew = Z0 at *
  refine H.tk (i := 0) (v := .agg c.cells) ?h0x1 hS ?_
  case h0x1 => exact (fun w hw => run_loadK shX (x := .tmp 2) rfl rfl hw.1 rfl)
  try simp only [Act.put, List.setIfInBounds_toArray, List.set_cons_zero, List.set_cons_succ]
  refine H.tk (i := 1) (v := .agg (cellsT (a, (d, t)))) ?h1x2 hS ?_
  case h1x2 => exact (fun w hw => run_loadK Tl.shT (x := .tmp 3) rfl rfl hw.2 rfl)
  try simp only [Act.put, List.setIfInBounds_toArray, List.set_cons_zero, List.set_cons_succ]
  refine H.one (i := 2) (by simp only [List.getElem?_toArray, List.getElem?_cons_succ, List.getElem?_cons_zero]; rfl) (by kernel_rfl) (by kernel_rfl) (fun K hK => ?_)
  go_simp
  refine (opaque_any a t d Z0).mono ?_
  rintro e X0 ⟨rfl, hb⟩
  refine hK.out _ _ ⟨hS.1.below hb, hS.2.below hb⟩ ?_
  clear hK K
  have hS := And.intro (hS.1.below hb) (hS.2.below hb)
  have R0 := Lib.hid (R0.out.below hb)
  have HB := Lib.hid (bcall HB.out hb)
  have hzX := hb.size
  clear hb
  try simp only [Act.put, List.setIfInBounds_toArray, List.set_cons_zero, List.set_cons_succ]
  refine H.one (i := 3) (by simp only [List.getElem?_toArray, List.getElem?_cons_succ, List.getElem?_cons_zero]; rfl) (by kernel_rfl) (by kernel_rfl) (fun K hK => ?_)
  go_simp
  refine (told_any (B := X0.heap.size) (opM t d) true X0 rfl (Sx.Lst.nil _ _) (Nat.le_refl _)).mono ?_
  rintro e X1 ⟨qa, qk, l2, rfl, hl2, hm, hb⟩
  refine hK.out _ _ ⟨hS.1.below hb, hS.2.below hb⟩ ?_
  clear hK K
  have hS := And.intro (hS.1.below hb) (hS.2.below hb)
  have R0 := Lib.hid (R0.out.below hb)
  have HB := Lib.hid (bcall HB.out hb)
  have HM := Lib.hid hm
  have HQ := Lib.hid hl2
  clear hb hm hl2
  try simp only [Act.put, List.setIfInBounds_toArray, List.set_cons_zero, List.set_cons_succ]
  refine H.one (i := 4) (by simp only [List.getElem?_toArray, List.getElem?_cons_succ, List.getElem?_cons_zero]; rfl) (by kernel_rfl) (by kernel_rfl) (fun K hK => ?_)
  refine wp_store_row 35 _ _ rfl (w.heap.size + 1 + 1) c.cells rfl rfl 35 Kx.zero.cells R0.out infoX rfl (oneX c) ?_
  refine hK.out _ _ ⟨hS.1.row (by omega) _, Bk.Bk.row hS.2 (by omega) _⟩ ?_
  clear hK K
  have hS := And.intro (hS.1.row (g := w.heap.size + 1 + 1) (by omega) c.cells) (Bk.Bk.row hS.2 (g := w.heap.size + 1 + 1) (by omega) c.cells)
  try simp only [Act.put]
  refine H.tk (i := 5) (v := .slice qa l2.length qk) ?h5x3 hS ?_
  case h5x3 => exact (fun w hw => by go_simp)
  try simp only [Act.put, List.setIfInBounds_toArray, List.set_cons_zero, List.set_cons_succ]
  refine H.tk (i := 6) (v := (Value.int IntKind.i64 0)) (fun w _ => rfl) hS ?_
  try simp only [Act.put, List.setIfInBounds_toArray, List.set_cons_zero, List.set_cons_succ]
  refine wpAnyH_done (by kernel_rfl) ?_ _
  go_wp2_with fail
  exact bodyPost_ret (v := .tuple #[.agg (Kx.cells c), .slice qa l2.length qk, .int .i64 0]) (results_three rfl _ _ (w.heap.size + 1 + 1) _ rfl (loadVarK shX (R0.out.put (Kx.cells c)) rfl) (.slice qa l2.length qk) rfl (.int .i64 0) rfl) rfl (by rw [HY.out]; exact AnsC.told (p := (opM t d, true, 0)) (Pl.refl _) (fun _ => rfl) HQ.out (HM.out.under (by omega) _) (by omega) (Box.below_setRow HB.out (by omega) _))
theorem take_any (c : Kx) (a t : Int) (d : ByteArray) (w : World) (hc : okC c = true) (hs : d.size ≤ 100000) (h0 : 0 ≤ t) (ht : Tab w) : Calls Tryz.prog 17 #[.agg c.cells, .agg (cellsT (a, (d, t)))] w (AnsC (one c t d) w) := by
  by_cases h1 : t = 0 ∨ t = 1
  · exact take_pad c a t d w h1 ht
  by_cases h2 : t = 2 ∨ t = 3 ∨ t = 4 ∨ t = 5
  · exact take_f c a t d w hs h2 ht
  by_cases h6 : t = 6 ∨ t = 7 ∨ t = 8
  · exact take_known c a t d w hc hs h6 ht
  by_cases h9 : t = 9 ∨ t = 10
  · exact take_j c a t d w hs h9 ht
  exact take_o c a t d w (by omega) ht
theorem wpList_loadT {ops : Array Oper} {rest : List Oper} {o : Oper} {a : Act} {w : World} {Q : Exit → Act → World → Prop} (hgd : o.guard = none) (x : Operand) (ho : o.op = .load 31 x) {q : Addr} {u : F1.T} (hx : a.eval x = .pointer (some q))
    (hc : w.cell? q = some (.int .i64 u.2.2) ∧ w.cell? (q.add 1) = some (.int .i64 u.1) ∧ w.cell? (q.add 2) = some (.string u.2.1)) (h : wpList Tryz.prog ops Q rest (a.put o.dst (.agg (cellsT u))) w) : wpList Tryz.prog ops Q (o :: rest) a w :=
  wpList_plain hgd fun K hK => by
    unfold Oper.wp
    rw [ex_loadT ho hx hc]
    exact hK _ _ h
set_option maxHeartbeats 51200000 in
set_option maxRecDepth 100000 in
theorem fold_any (a : Option Addr) (l : List F1.T) (kc : Nat) (w : World) (hl : TRow w a l) (hn : l.length ≤ 50000) (hd : okL l) (ht : Tab w) : Calls Tryz.prog 9 #[.slice a l.length kc] w (AnsF (outI l) w) := by
  have HL := Lib.hid hl
  have HD := Lib.hid hd
  have HT := Lib.hid ht
  have D := Lib.hid (Fo.start w)
  clear hl hd ht
  go_enter Tryz.func9, Tryz.ntmps9
  go_upto_region 3 with fail
  change Code.wp _ _ _ _ ((w.alloc (.cells Kx.zero.cells 35)).alloc (.cells Kx.zero.cells 35))
  generalize (w.alloc (.cells Kx.zero.cells 35)).alloc (.cells Kx.zero.cells 35) = V at *
  go_wp2
  go_loopw [6, 15] (fun v i wr => ∃ (k : Nat) (c : Kx) (o ls : List M), k ≤ l.length ∧ i = .int .i64 k ∧ Hid (okC c = true) ∧ Hid (outI l = foldI (l.drop k) c o) ∧ Hid (PlL ls o) ∧ Hid (ls.length ≤ k) ∧ Hid (LM (w.heap.size + 1 + 1) (w.heap.size + 1 + 1) wr v ls) ∧ Hid (Fo w c wr)) (fun _ i _ => l.length - (intOf i).toNat)
  case atStart => exact ⟨0, Kx.zero, [], [], Nat.zero_le _, rfl, Lib.hid (by decide), Lib.hid rfl, Lib.hid PlL.nil, Lib.hid (Nat.le_refl _), Lib.hid (LM.nil _ _ _), D⟩
  case round =>
    clear D
    obtain ⟨k, c, o, ls, hk, rfl, HC, HF, HP0, HK0, HM0, D⟩ := hrel
    by_cases hlt : k < l.length
    rotate_left
    · obtain rfl : k = l.length := by omega
      have HY := Lib.hid (fold_done HF.out)
      obtain ⟨va, vc, rfl⟩ := HM0.out.slice
      clear HF HL HD hlt hk
      go_upto_region 12 with fail
      have HLM := Lib.hid HM0.out
      have R0 := Lib.hid (show Bk 35 wr.drew w.heap.size Kx.zero.cells from D.out.r0)
      have HB := Lib.hid D.out.bel.drew
      refine wp_region_held_drew (S := fun X => Bk 35 X (w.heap.size + 1) c.cells) (by kernel_rfl) (D.out.c0) (fun hS => ?_)
      have HLM := Lib.hid (show LM (w.heap.size + 1 + 1) (w.heap.size + 1 + 1) wr.drew _ ls from HLM.out.below (Below.refl _ wr).drew)
      generalize wr.drew = Z0 at *
      refine H.tk (i := 0) (v := .slice va ls.length vc) ?h0x1t hS ?_
      case h0x1t => exact (fun w hw => by go_simp)
      try simp only [Act.put, List.setIfInBounds_toArray, List.set_cons_zero, List.set_cons_succ]
      refine H.tk (i := 1) (v := .agg c.cells) ?h1x2t hS ?_
      case h1x2t => exact (fun w hw => run_loadK shX (x := .tmp 7) rfl rfl hw rfl)
      try simp only [Act.put, List.setIfInBounds_toArray, List.set_cons_zero, List.set_cons_succ]
      refine H.tk (i := 2) (v := .slice va ls.length vc) ?h2x3t hS ?_
      case h2x3t => exact (fun w hw => by go_simp)
      try simp only [Act.put, List.setIfInBounds_toArray, List.set_cons_zero, List.set_cons_succ]
      refine H.one (i := 3) (by simp only [List.getElem?_toArray, List.getElem?_cons_succ, List.getElem?_cons_zero]; rfl) (by kernel_rfl) (by kernel_rfl) (fun K hK => ?_)
      refine wp_store_row 35 _ _ rfl w.heap.size c.cells rfl rfl 35 Kx.zero.cells R0.out infoX rfl (oneX _) ?_
      refine hK.out _ _ (hS.row (by omega) _) ?_
      clear hK K
      have hS := (show Bk 35 (Z0.setRow w.heap.size c.cells) (w.heap.size + 1) c.cells from hS.row (by omega) _)
      try simp only [Act.put]
      refine H.tk (i := 4) (v := (Value.int IntKind.i64 0)) (fun w _ => rfl) hS ?_
      try simp only [Act.put, List.setIfInBounds_toArray, List.set_cons_zero, List.set_cons_succ]
      refine H.tk (i := 5) (v := (Value.int IntKind.i64 0)) (fun w _ => rfl) hS ?_
      try simp only [Act.put, List.setIfInBounds_toArray, List.set_cons_zero, List.set_cons_succ]
      refine wpAnyH_done (by kernel_rfl) ?_ _
      go_wp2_with fail
      exact bodyPost_ret (v := .tuple #[.slice va ls.length vc, .agg (Kx.cells c), .int .i64 0, .int .i64 0]) (results_head (ty := 35) rfl _ _ w.heap.size (.agg (Kx.cells c)) (.slice va ls.length vc) rfl rfl (loadVarK shX (R0.out.put (Kx.cells c)) rfl) (.int .i64 0) rfl (.int .i64 0) rfl) rfl (by rw [HY.out]; exact ⟨va, vc, ls, rfl, HP0.out, ((HLM.out.under (by omega) (by omega) _).own (Nat.le_refl _)).mono (by omega), Box.below_setRow HB.out (Nat.le_refl _) _, HLM.out.room⟩)
    obtain ⟨p, rfl, hat⟩ := tl_at HL.out k hlt
    have HA := Lib.hid hat
    have ix := fun W => indexT p l.length kc k hlt W
    have HFS := Lib.hid (fold_step hlt HF.out)
    obtain ⟨hd0, hd2, hdk⟩ := HD.out _ (List.getElem_mem hlt)
    clear hat HF
    generalize l[k] = u at *
    obtain ⟨at0, d, n⟩ := u
    simp only [] at HA HFS hd0 hd2 hdk
    have P1 := Lib.hid (fun V (y : Tab V) => take_any c at0 n d V HC.out (by omega) hd0 y)
    have hfew := one_few HC.out n d
    have HG := Lib.hid (one_fine HC.out n d).ok
    clear hd0 hd2 hdk
    generalize one c n d = q at *
    have hzr : w.heap.size + 1 + 1 ≤ wr.heap.size := D.out.c0.lt
    go_upto_region 6 with (first | (refine wpList_loadT (u := (at0, (d, n))) rfl _ rfl rfl (HA.out _ D.out.bel) ?_) | (refine Bk.wpList_storeK (b := wr.heap.size) Tl.shT rfl _ _ rfl rfl rfl (Bk.Bk.new 31 wr (cellsT F3.zT)) rfl rfl (Tl.oneT (at0, (d, n))) ?_))
    change Code.wp _ _ _ _ ((wr.alloc (.cells (cellsT F3.zT) 31)).setRow wr.heap.size (cellsT (at0, (d, n))))
    rw [World.setRow_alloc_new]
    have bel := balloc (Below.refl wr.heap.size wr) (.cells (cellsT (at0, (d, n))) 31)
    have D := Lib.hid (D.out.call bel)
    have HM0 := Lib.hid (HM0.out.below bel)
    have T0 := Lib.hid (Bk.Bk.new 31 wr (cellsT (at0, (d, n))))
    have hz1 := bel.size
    clear bel
    generalize wr.alloc (.cells (cellsT (at0, (d, n))) 31) = W0 at *
    go_wp2_with (first | (refine wpList_loadX (b := w.heap.size + 1) (m := c) rfl _ rfl rfl D.out.c0 ?_) | (refine Bk.wpList_loadK (b := wr.heap.size) Tl.shT rfl _ rfl rfl T0.out rfl ?_))
    refine (P1.out _ (HT.out.below D.out.bel)).mono ?_
    rintro e w1 ⟨qa, qk, ls2, rfl, hp, hm, hb⟩
    have D := Lib.hid (D.out.call hb)
    have HM0 := Lib.hid (HM0.out.below hb)
    have T0 := Lib.hid (T0.out.below hb)
    have HP2 := Lib.hid hp
    have HM2 := Lib.hid hm
    have hl2 : ls2.length ≤ 1 := by rw [hp.1]; exact hfew
    have hz2 := hb.size
    clear hb hp hm P1 HA ix
    go_upto_region 7 with (refine wpList_storeX (b := w1.heap.size) (m := Kx.zero) (m' := q.1) rfl _ _ rfl rfl rfl (Bk.Bk.new 35 w1 Kx.zero.cells) ?_)
    change Code.wp _ _ _ _ ((w1.alloc (.cells Kx.zero.cells 35)).setRow w1.heap.size q.1.cells)
    rw [World.setRow_alloc_new]
    have bel := balloc (Below.refl w1.heap.size w1) (.cells q.1.cells 35)
    have D := Lib.hid (D.out.call bel)
    have HM0 := Lib.hid (HM0.out.below bel)
    have T0 := Lib.hid (T0.out.below bel)
    have HM2 := Lib.hid (HM2.out.below bel)
    have HG2 := Lib.hid (Bk.Bk.new 35 w1 q.1.cells)
    have hz3 := bel.size
    clear bel
    generalize w1.alloc (.cells q.1.cells 35) = W at *
    by_cases he : q.2.2 = 0
    rotate_left
    · have HY := Lib.hid (HFS.out.2 he)
      have e1 : (q.2.2 == 0) = false := by simpa using he
      have e2 : (q.2.2 != 0) = true := by rw [bne, e1]; rfl
      clear he HFS HG2 HM2 HM0
      generalize q.2.2 = er at *
      go_upto_region 8 with fail
      have R0 := Lib.hid (show Bk 35 W.drew w.heap.size Kx.zero.cells from D.out.r0)
      have HB := Lib.hid D.out.bel.drew
      refine wp_region_held_drew (S := fun X => Bk 31 X wr.heap.size (cellsT (at0, (d, n)))) (by kernel_rfl) (T0.out) (fun hS => ?_)
      generalize W.drew = Z0 at *
      refine H.tk (i := 0) (v := .agg Kx.zero.cells) ?h0x1e hS ?_
      case h0x1e => exact (fun w hw => ex_built rfl (by kernel_rfl))
      try simp only [Act.put, List.setIfInBounds_toArray, List.set_cons_zero, List.set_cons_succ]
      refine H.tk (i := 1) (v := ?v1x2e) ?h1x2e hS ?_
      case h1x2e => (intro w hw; go_simp; first | done | (with_reducible rfl))
      try simp only [Act.put, List.setIfInBounds_toArray, List.set_cons_zero, List.set_cons_succ]
      refine H.tk (i := 2) (v := .int .i64 at0) ?h2x3e hS ?_
      case h2x3e => exact (fun w hw => by have c := hw.cell 1 (.int .i64 at0) rfl; go_simp)
      try simp only [Act.put, List.setIfInBounds_toArray, List.set_cons_zero, List.set_cons_succ]
      refine H.tk (i := 3) (v := .int .i64 er) ?h3x4e hS ?_
      case h3x4e => exact (fun w hw => by go_simp)
      try simp only [Act.put, List.setIfInBounds_toArray, List.set_cons_zero, List.set_cons_succ]
      refine H.tk (i := 4) (v := (Value.slice none 0 0)) (fun w _ => rfl) hS ?_
      try simp only [Act.put, List.setIfInBounds_toArray, List.set_cons_zero, List.set_cons_succ]
      refine H.one (i := 5) (by simp only [List.getElem?_toArray, List.getElem?_cons_succ, List.getElem?_cons_zero]; rfl) (by kernel_rfl) (by kernel_rfl) (fun K hK => ?_)
      refine wp_store_row 35 _ _ rfl w.heap.size Kx.zero.cells rfl rfl 35 Kx.zero.cells R0.out infoX rfl (oneX _) ?_
      refine hK.out _ _ (hS.row (by omega) _) ?_
      clear hK K
      have hS := (show Bk 31 (Z0.setRow w.heap.size Kx.zero.cells) wr.heap.size (cellsT (at0, (d, n))) from hS.row (by omega) _)
      try simp only [Act.put]
      refine H.tk (i := 6) (v := .int .i64 at0) ?h6x6e hS ?_
      case h6x6e => exact (fun w hw => by go_simp)
      try simp only [Act.put, List.setIfInBounds_toArray, List.set_cons_zero, List.set_cons_succ]
      refine H.tk (i := 7) (v := .int .i64 er) ?h7x7e hS ?_
      case h7x7e => exact (fun w hw => by go_simp)
      try simp only [Act.put, List.setIfInBounds_toArray, List.set_cons_zero, List.set_cons_succ]
      refine wpAnyH_done (by kernel_rfl) ?_ _
      go_wp2_with fail
      exact bodyPost_ret (v := .tuple #[.slice none 0 0, .agg (Kx.cells Kx.zero), .int .i64 at0, .int .i64 er]) (results_head (ty := 35) rfl _ _ w.heap.size (.agg (Kx.cells Kx.zero)) (.slice none 0 0) rfl rfl (loadVarK shX (R0.out.put (Kx.cells Kx.zero)) rfl) (.int .i64 at0) rfl (.int .i64 er) rfl) rfl (AnsF.no HY.out (Box.below_setRow HB.out (Nat.le_refl _) _))
    have HE := Lib.hid (HFS.out.1 he)
    have e1 : (q.2.2 == 0) = true := by simpa using he
    have e2 : (q.2.2 != 0) = false := by rw [bne, e1]; rfl
    clear he HFS T0
    generalize q.2.2 = er at *
    go_upto_region 10 with (first | (refine wpList_loadX (b := w1.heap.size) (m := q.1) rfl _ rfl rfl HG2.out ?_) | (refine wpList_storeX (b := w.heap.size + 1) (m := c) (m' := q.1) rfl _ _ rfl rfl rfl D.out.c0 ?_))
    have D := Lib.hid (D.out.put q.1)
    have HM0 := Lib.hid (HM0.out.under (g := w.heap.size + 1) (by omega) (by omega) q.1.cells)
    have HM2 := Lib.hid (HM2.out.under (g := w.heap.size + 1) (by omega) q.1.cells)
    have hws : w.heap.size + 1 + 1 ≤ (W.setRow (w.heap.size + 1) q.1.cells).heap.size := by simp; omega
    clear HG2
    generalize W.setRow (w.heap.size + 1) q.1.cells = W2 at *
    have HM2 := Lib.hid (HM2.out.mono (show w.heap.size + 1 + 1 ≤ W0.heap.size by omega))
    have hln : ls.length + ls2.length ≤ 100000 := by have := HK0.out; omega
    have HPP := Lib.hid (PlL.app HP0.out HP2.out)
    have HKK := Lib.hid (show (ls ++ ls2).length ≤ k + 1 by rw [List.length_append]; have := HK0.out; omega)
    have HLN := Lib.hid hln
    have HWS := Lib.hid hws
    clear hln hws HP0 HP2 hl2 hfew hz1 hz2 hz3 hzr
    go_upto_region 11 with (at_builtin; refine app_list rfl _ _ rfl (w.heap.size + 1 + 1) (w.heap.size + 1 + 1) _ ls ls2 qa qk rfl HM0.out rfl HM2.out HLN.out HWS.out ?_)
    intro v' w' hl hb hgr
    have D' := Lib.hid (show Fo w q.1 w' from ⟨D.out.r0.under hb (by omega), D.out.c0.under hb (by omega), D.out.bel.trans (hb.mono (by omega))⟩)
    have HM := Lib.hid hl
    clear hl hb hgr HM0 HM2 D
    go_wp2
    go_roundw
    case rel => exact ⟨k + 1, q.1, o ++ q.2.1, ls ++ ls2, hlt, by go_num, HG, HE, HPP, HKK, HM, D'⟩
    case measure => simp [intOf]; omega
/-- The TLVs of a datagram's body, and where and why there are none. -/
noncomputable def outV (b : ByteArray) : List F1.T × Int × Int :=
  if ¬ (outB b).2.2 = 0 then ([], (outB b).2.1, (outB b).2.2)
  else if ¬ (outT 4 (outB b).1).2.2 = 0 then ([], (outT 4 (outB b).1).2.1, (outT 4 (outB b).1).2.2)
  else if ¬ (outT (4 + ((outB b).1.size : Int)) (trail b)).2.2 = 0 then ([], (outT (4 + ((outB b).1.size : Int)) (trail b)).2.1, (outT (4 + ((outB b).1.size : Int)) (trail b)).2.2)
  else ((outT 4 (outB b).1).1, 0, 0)
theorem outV_1 {b : ByteArray} (h : ¬ (outB b).2.2 = 0) : outV b = ([], (outB b).2.1, (outB b).2.2) := by unfold outV; rw [if_pos h]
theorem outV_2 {b s : ByteArray} (h : outB b = (s, 0, 0)) (h2 : ¬ (outT 4 s).2.2 = 0) : outV b = ([], (outT 4 s).2.1, (outT 4 s).2.2) := by unfold outV; rw [h, if_neg (by simp), if_pos h2]
theorem outV_3 {b s : ByteArray} (h : outB b = (s, 0, 0)) (h2 : (outT 4 s).2.2 = 0) (h3 : ¬ (outT (4 + (s.size : Int)) (trail b)).2.2 = 0) : outV b = ([], (outT (4 + (s.size : Int)) (trail b)).2.1, (outT (4 + (s.size : Int)) (trail b)).2.2) := by
  unfold outV; rw [h, if_neg (by simp), if_neg (by simpa using h2), if_pos h3]
theorem outV_4 {b s : ByteArray} (h : outB b = (s, 0, 0)) (h2 : (outT 4 s).2.2 = 0) (h3 : (outT (4 + (s.size : Int)) (trail b)).2.2 = 0) : outV b = ((outT 4 s).1, 0, 0) := by
  unfold outV; rw [h, if_neg (by simp), if_neg (by simpa using h2), if_neg (by simpa using h3)]
/-- How a datagram's TLVs are told: an error, which is the messages' too; or TLVs, of which the messages come. -/
theorem outV_cases (b : ByteArray) (hs : b.size ≤ 50000) : (¬ (outV b).2.2 = 0 ∧ outP b = ([], (outV b).2.1, (outV b).2.2)) ∨ ((outV b).2.2 = 0 ∧ outP b = ((outI (outV b).1).1, (outI (outV b).1).2.2.1, (outI (outV b).1).2.2.2) ∧ (outV b).1.length ≤ 50000 ∧ okL (outV b).1) := by
  rcases I2.outB_two b with ⟨i, e, he, h1⟩ | ⟨s, hh, h1, hsz⟩
  · have h := show ¬ (outB b).2.2 = 0 by rw [h1]; exact he
    rw [outV_1 h, outP_1 h]
    exact .inl ⟨h, rfl⟩
  by_cases h2 : (outT 4 s).2.2 = 0
  rotate_left
  · rw [outV_2 h1 h2, outP_2 h1 h2]
    exact .inl ⟨h2, rfl⟩
  by_cases h3 : (outT (4 + (s.size : Int)) (trail b)).2.2 = 0
  rotate_left
  · rw [outV_3 h1 h2 h3, outP_3 h1 h2 h3]
    exact .inl ⟨h3, rfl⟩
  have hf := I2.split_few 4 s
  rw [outV_4 h1 h2 h3, outP_4 h1 h2 h3]
  refine .inr ⟨rfl, rfl, ?_, hf.2⟩
  have := hf.1
  show (outT 4 s).1.length ≤ 50000
  omega
theorem tl_mono {B B' : Nat} {w : World} {v : Value} {l : List F1.T} (h : Tl.Lst B w v l) (hB : B' ≤ B) : Tl.Lst B' w v l := by
  refine ⟨h.1, ?_⟩
  rcases h.2 with h | ⟨k, cap, cur, a, b, c, d⟩
  · exact .inl h
  · exact .inr ⟨k, cap, cur, a, Nat.le_trans hB b, c, d⟩
set_option maxHeartbeats 25600000 in
set_option maxRecDepth 100000 in
theorem tlvs_any (b : ByteArray) (w : World) (hs : b.size ≤ 50000) : Calls Tryz.prog 12 #[.string b] w (AnsT (outV b) w) := by
  have PB := Lib.hid (fun V => body_any b V (by unfold maxLen; omega))
  unfold BodyIs at PB
  rcases I2.outB_two b with ⟨i, e, he, h1⟩ | ⟨s, hh, h1, hsz⟩
  · have HY := Lib.hid (outV_1 (by rw [h1]; exact he))
    rw [h1] at HY PB
    dsimp only at PB
    have e1 : (e == 0) = false := by simpa using he
    have e2 : (e != 0) = true := by rw [bne, e1]; rfl
    clear he hs h1
    go_enter Tryz.func12, Tryz.ntmps12
    go_wp2_with fail
    refine (PB.out _).mono ?_
    rintro r w1 ⟨rfl, hb⟩
    have HB := Lib.hid hb
    clear hb  PB
    go_wp2
    go_ret3
    exact AnsT.no HY.out HB.out
  rw [h1] at PB
  dsimp only at PB
  have PS := Lib.hid (fun V => split_own s 4 V (by omega) (by omega) (by omega))
  have PT := Lib.hid (fun V => trailer_any b V (by unfold maxLen; omega) hh)
  have hts : (trail b).size ≤ b.size := by unfold trail; simp
  have PR := Lib.hid (fun V => split_own (trail b) (4 + (s.size : Int)) V (by omega) (by omega) (by omega))
  have hsn : (s.size : Int) ≤ 50000 := by omega
  have H2 := Lib.hid (outV_2 h1)
  have H3 := Lib.hid (outV_3 h1)
  have H4 := Lib.hid (outV_4 h1)
  clear hs h1 hh hts hsz
  generalize outT 4 s = p at *
  generalize outT (4 + (s.size : Int)) (trail b) = q at *
  generalize trail b = tb at *
  obtain ⟨l, i1, e1⟩ := p
  obtain ⟨l', i2, e2⟩ := q
  simp only [] at H2 H3 H4
  have hq1 : IntKind.i64.wrap (4 + (s.size : Int)) = 4 + (s.size : Int) := IntWalk.i64_in _ (by omega)
  have hq2 : wrap64 (4 + (s.size : Int)) = 4 + (s.size : Int) := IntWalk.wrap64_in _ (by omega)
  by_cases h2 : e1 = 0
  rotate_left
  · have HY := Lib.hid (H2.out h2)
    have f1 : (e1 == 0) = false := by simpa using h2
    have f2 : (e1 != 0) = true := by rw [bne, f1]; rfl
    clear h2 H2 H3 H4
    go_enter Tryz.func12, Tryz.ntmps12
    go_wp2_with fail
    refine (PB.out _).mono ?_
    rintro r w1 ⟨rfl, hb⟩
    have HB := Lib.hid hb
    clear hb  PB
    have hz1 := HB.out.size
    go_wp2_with fail
    refine (PS.out _).mono ?_
    rintro e w2 ⟨sa, sc, rfl, hl, hb⟩
    have HB := Lib.hid (bcall HB.out hb)
    have HL := Lib.hid (tl_mono hl hz1)
    clear hb hl PS hz1
    clear HL
    go_wp2
    go_ret3
    exact AnsT.no HY.out HB.out
  subst h2
  by_cases h3 : e2 = 0
  rotate_left
  · have HY := Lib.hid (H3.out rfl h3)
    have f1 : (e2 == 0) = false := by simpa using h3
    have f2 : (e2 != 0) = true := by rw [bne, f1]; rfl
    clear h3 H2 H3 H4
    go_enter Tryz.func12, Tryz.ntmps12
    go_wp2_with fail
    refine (PB.out _).mono ?_
    rintro r w1 ⟨rfl, hb⟩
    have HB := Lib.hid hb
    clear hb  PB
    have hz1 := HB.out.size
    go_wp2_with fail
    refine (PS.out _).mono ?_
    rintro e w2 ⟨sa, sc, rfl, hl, hb⟩
    have HB := Lib.hid (bcall HB.out hb)
    have HL := Lib.hid (tl_mono hl hz1)
    clear hb hl PS hz1
    go_wp2_with fail
    refine (PT.out _).mono ?_
    rintro r w3 ⟨rfl, hb⟩
    have HB := Lib.hid (bcall HB.out hb)
    have HL := Lib.hid (HL.out.below hb)
    clear hb PT
    go_wp2_with fail
    refine (PR.out _).mono ?_
    rintro e w4 ⟨sb, sd, rfl, hl, hb⟩
    have HB := Lib.hid (bcall HB.out hb)
    have HL := Lib.hid (HL.out.below hb)
    clear hb hl PR
    clear HL
    go_wp2
    go_ret3
    exact AnsT.no HY.out HB.out
  subst h3
  have HY := Lib.hid (H4.out rfl rfl)
  clear H2 H3 H4
  go_enter Tryz.func12, Tryz.ntmps12
  go_wp2_with fail
  refine (PB.out _).mono ?_
  rintro r w1 ⟨rfl, hb⟩
  have HB := Lib.hid hb
  clear hb  PB
  have hz1 := HB.out.size
  go_wp2_with fail
  refine (PS.out _).mono ?_
  rintro e w2 ⟨sa, sc, rfl, hl, hb⟩
  have HB := Lib.hid (bcall HB.out hb)
  have HL := Lib.hid (tl_mono hl hz1)
  clear hb hl PS hz1
  go_wp2_with fail
  refine (PT.out _).mono ?_
  rintro r w3 ⟨rfl, hb⟩
  have HB := Lib.hid (bcall HB.out hb)
  have HL := Lib.hid (HL.out.below hb)
  clear hb PT
  go_wp2_with fail
  refine (PR.out _).mono ?_
  rintro e w4 ⟨sb, sd, rfl, hl, hb⟩
  have HB := Lib.hid (bcall HB.out hb)
  have HL := Lib.hid (HL.out.below hb)
  clear hb hl PR
  go_wp2
  go_ret3
  exact F4.AnsT.yes HY.out rfl HL.out HB.out
set_option maxHeartbeats 25600000 in
set_option maxRecDepth 100000 in
theorem parse_any (b : ByteArray) (w : World) (hs : b.size ≤ 50000) (ht : Tab w) : Calls Tryz.prog 6 #[.string b] w (AnsP (outP b) w) := by
  have HT := Lib.hid ht
  have PB := Lib.hid (fun V => tlvs_any b V hs)
  have HV := Lib.hid (outV_cases b hs)
  clear ht hs
  generalize outV b = p at *
  obtain ⟨l, i, e⟩ := p
  rcases HV.out with ⟨he, h1⟩ | ⟨he, h1, h50, hok⟩
  · have HY := Lib.hid h1
    have e1 : (e == 0) = false := by simpa using he
    have e2 : (e != 0) = true := by rw [bne, e1]; rfl
    clear he h1 HV
    go_enter Tryz.func6, Tryz.ntmps6
    go_wp2_with fail
    refine (PB.out _).mono ?_
    rintro r w1 ⟨sa, sc, rfl, hl, hb⟩
    have HB := Lib.hid hb
    clear hb  PB hl
    go_wp2
    go_ret3
    exact AnsP.no HY.out HB.out
  have he : e = 0 := he
  subst he
  have HY := Lib.hid h1
  have PF := Lib.hid (fun V a k (h : TRow V a l) (y : Tab V) => fold_any a l k V h h50 hok y)
  clear h1 HV h50 hok
  go_enter Tryz.func6, Tryz.ntmps6
  go_wp2_with fail
  refine (PB.out _).mono ?_
  rintro r w1 ⟨sa, sc, rfl, hl, hb⟩
  have HL := Lib.hid hl
  have HB := Lib.hid hb
  clear hb hl PB
  go_wp2_with fail
  refine (PF.out _ _ _ HL.out.row (HT.out.below HB.out)).mono ?_
  rintro e w5 ⟨qa, qk, l2, rfl, hp, hm, hb, -⟩
  have hw4 := HB.out.size
  have HB := Lib.hid (bcall HB.out hb)
  have HP := Lib.hid hp
  have HM := Lib.hid (hm.mono hw4)
  clear hb hp hm PF HL
  go_upto_region 5 with (refine wpList_storeX (b := w5.heap.size) (m := Kx.zero) (m' := (outI l).2.1) rfl _ _ rfl rfl rfl (Bk.Bk.new 35 w5 Kx.zero.cells) ?_)
  change Code.wp _ _ _ _ ((w5.alloc (.cells Kx.zero.cells 35)).setRow w5.heap.size (outI l).2.1.cells)
  rw [World.setRow_alloc_new]
  have bel := balloc (Below.refl w5.heap.size w5) (.cells (outI l).2.1.cells 35)
  have HB := Lib.hid (bcall HB.out bel)
  have HM := Lib.hid (HM.out.below bel)
  clear bel
  generalize w5.alloc (.cells (outI l).2.1.cells 35) = w6 at *
  go_wp2
  go_ret3
  exact ⟨qa, qk, l2, by rw [HY.out]; rfl, by rw [HY.out]; exact HP.out, HM.out, HB.out⟩
end Go.Proofs.YtpkmpinbpfblfaaGreatDoor.I8
namespace Go.Proofs.YtpkmpinbpfblfaaGreatDoor.Ko
open Go.ChangeShapes Go.WideShapes Go.ChangeAt Go.RowKit
open Go.Proofs.YtpkmpinbpfblfaaGreatDoor.Ms
open Go.Proofs.YtpkmpinbpfblfaaGreatDoor.Lk (link rlink_bel)
open Go.Proofs.YtpkmpinbpfblfaaGreatDoor.J1
open Go.Proofs.YtpkmpinbpfblfaaGreatDoor.J2 (nil_eq nil_em size_eq)
open Go.Proofs.YtpkmpinbpfblfaaGreatDoor.K1
open Go.Proofs.YtpkmpinbpfblfaaGreatDoor.Kb
open Go.Proofs.YtpkmpinbpfblfaaGreatDoor.K2
open Go.Proofs.YtpkmpinbpfblfaaGreatDoor.Bk (Bk alloc_size)
set_option linter.unusedVariables false
set_option maxRecDepth 100000
set_option maxRecDepth 100000
theorem wpList_store4 {ops : Array Oper} {rest : List Oper} {o : Oper} {a : Act} {w : World} {Q : Exit → Act → World → Prop} (hgd : o.guard = none) (x y : Operand) (ho : o.op = .store 32 x y)
    {g : Nat} (hx : a.eval x = .pointer (some ⟨g, 0, none⟩)) {p q r s p' q' r' s' : ByteArray} (hy : a.eval y = .agg #[.string p', .string q', .string r', .string s']) (hb : Bk 32 w g #[.string p, .string q, .string r, .string s])
    (h : wpList Tryz.prog ops Q rest (a.put o.dst undef) (w.setRow g #[.string p', .string q', .string r', .string s'])) : wpList Tryz.prog ops Q (o :: rest) a w :=
  wpList_store_row hgd 32 x y ho g _ hx hy 32 _ hb (by kernel_rfl) rfl (by simp [Value.oneCell']) h
theorem ne_of {x : Int} {k : Int} {b : Bool} (h : (x == k) = b) : (x != k) = !b := by rw [bne, h]
set_option maxHeartbeats 12800000 in
theorem rok_any (c : Kx) (w : World) : Calls Tryz.prog 11 #[.agg c.cells] w fun e w' => e = .returned (.bool (okC c)) ∧ Below w.heap.size w w' := by
  have HK := Lib.hid (show okC c = (decide (c.p0.size = 0) && ((decide (c.p1.size = 0) || decide (c.p1.size = 4)) && ((decide (c.p2.size = 0) || decide (c.p2.size = 16)) && ((decide (c.p3.size = 0) || link c.p3) && ((decide (c.n0.size = 0) || decide (c.n0.size = 4)) && ((decide (c.n1.size = 0) || decide (c.n1.size = 16)) && (decide (c.id.size = 0) || decide (c.id.size = 8)))))))) from rfl)
  have C0 := Lib.hid (Bk.Bk.new 35 w c.cells)
  have HB := Lib.hid (balloc (Below.refl _ w) (.cells c.cells 35))
  have PL := Lib.hid (fun V => rlink_bel c.p3 V)
  have n0 := nil_eq c.p0
  have m0 := nil_em c.p0
  have n1 := nil_eq c.p1
  have m1 := nil_em c.p1
  have q1 : ((c.p1.size : Int) == 4) = decide (c.p1.size = 4) := size_eq c.p1 4
  have r1 := ne_of q1
  have n2 := nil_eq c.p2
  have m2 := nil_em c.p2
  have q2 : ((c.p2.size : Int) == 16) = decide (c.p2.size = 16) := size_eq c.p2 16
  have r2 := ne_of q2
  have n3 := nil_eq c.p3
  have m3 := nil_em c.p3
  have n4 := nil_eq c.n0
  have m4 := nil_em c.n0
  have q4 : ((c.n0.size : Int) == 4) = decide (c.n0.size = 4) := size_eq c.n0 4
  have r4 := ne_of q4
  have n5 := nil_eq c.n1
  have m5 := nil_em c.n1
  have q5 : ((c.n1.size : Int) == 16) = decide (c.n1.size = 16) := size_eq c.n1 16
  have r5 := ne_of q5
  have n6 := nil_eq c.id
  have m6 := nil_em c.id
  have q6 : ((c.id.size : Int) == 8) = decide (c.id.size = 8) := size_eq c.id 8
  have r6 := ne_of q6
  generalize okC c = y at *
  generalize decide (c.p0.size = 0) = z0 at *
  generalize decide (c.p1.size = 0) = z1 at *
  generalize decide (c.p1.size = 4) = s1 at *
  generalize decide (c.p2.size = 0) = z2 at *
  generalize decide (c.p2.size = 16) = s2 at *
  generalize decide (c.p3.size = 0) = z3 at *
  generalize decide (c.n0.size = 0) = z4 at *
  generalize decide (c.n0.size = 4) = s4 at *
  generalize decide (c.n1.size = 0) = z5 at *
  generalize decide (c.n1.size = 16) = s5 at *
  generalize decide (c.id.size = 0) = z6 at *
  generalize decide (c.id.size = 8) = s6 at *
  generalize link c.p3 = s3 at *
  go_enter Tryz.func11, Tryz.ntmps11
  go_upto_region 1 with fail
  change Code.wp _ _ _ _ (w.alloc (.cells c.cells 35))
  generalize w.alloc (.cells c.cells 35) = V at *
  go_upto_region 2 with (first | (refine wpList_loadAt (b := w.heap.size) (off := 0) (l := [.string c.p0, .string c.p1, .string c.p2, .string c.p3]) rfl _ rfl rfl C0.out (four_in c) (agg4 _) (size4 _) ?_) | (refine wpList_store4 (g := V.heap.size) rfl _ _ rfl rfl rfl (Bk.Bk.new 32 V #[.string ByteArray.empty, .string ByteArray.empty, .string ByteArray.empty, .string ByteArray.empty]) ?_))
  change Code.wp _ _ _ _ ((V.alloc (.cells #[.string ByteArray.empty, .string ByteArray.empty, .string ByteArray.empty, .string ByteArray.empty] 32)).setRow V.heap.size #[.string c.p0, .string c.p1, .string c.p2, .string c.p3])
  rw [World.setRow_alloc_new]
  have A0 := Lib.hid (Bk.Bk.new 32 V #[.string c.p0, .string c.p1, .string c.p2, .string c.p3])
  have bel := balloc (Below.refl V.heap.size V) (.cells #[.string c.p0, .string c.p1, .string c.p2, .string c.p3] 32)
  have C0 := Lib.hid (C0.out.below bel)
  have HB := Lib.hid (bcall HB.out bel)
  clear bel
  generalize V.alloc (.cells #[.string c.p0, .string c.p1, .string c.p2, .string c.p3] 32) = W at *
  generalize V.heap.size = g at *
  simp only [Act.put]
  go_cut [41] (fun m wx => m = .bool (!(z0 && ((z1 || s1) && ((z2 || s2) && (z3 || s3))))) ∧ Below W.heap.size W wx)
  case first =>
    have HB := Lib.hid (Below.refl W.heap.size W)
    have a0 := A0.out.cell 0 (.string c.p0) rfl
    have a1 := A0.out.cell 1 (.string c.p1) rfl
    have a2 := A0.out.cell 2 (.string c.p2) rfl
    have a3 := A0.out.cell 3 (.string c.p3) rfl
    clear A0 C0 HK
    cases z0
    rotate_left
    · cases z1
      rotate_left
      · cases z2
        rotate_left
        · cases z3
          rotate_left
          · go_wp2_with fail
            go_meet
            exact ⟨rfl, HB.out⟩
          cases s3
          · go_wp2_with fail
            refine (PL.out _).mono ?_
            rintro r w' ⟨rfl, hb⟩
            have HB := Lib.hid (bcall HB.out hb)
            clear hb
            go_wp2_with fail
            go_meet
            exact ⟨rfl, HB.out⟩
          go_wp2_with fail
          refine (PL.out _).mono ?_
          rintro r w' ⟨rfl, hb⟩
          have HB := Lib.hid (bcall HB.out hb)
          clear hb
          go_wp2_with fail
          go_meet
          exact ⟨rfl, HB.out⟩
        cases s2
        · go_wp2_with fail
          go_meet
          exact ⟨rfl, HB.out⟩
        cases z3
        rotate_left
        · go_wp2_with fail
          go_meet
          exact ⟨rfl, HB.out⟩
        cases s3
        · go_wp2_with fail
          refine (PL.out _).mono ?_
          rintro r w' ⟨rfl, hb⟩
          have HB := Lib.hid (bcall HB.out hb)
          clear hb
          go_wp2_with fail
          go_meet
          exact ⟨rfl, HB.out⟩
        go_wp2_with fail
        refine (PL.out _).mono ?_
        rintro r w' ⟨rfl, hb⟩
        have HB := Lib.hid (bcall HB.out hb)
        clear hb
        go_wp2_with fail
        go_meet
        exact ⟨rfl, HB.out⟩
      cases s1
      · go_wp2_with fail
        go_meet
        exact ⟨rfl, HB.out⟩
      cases z2
      rotate_left
      · cases z3
        rotate_left
        · go_wp2_with fail
          go_meet
          exact ⟨rfl, HB.out⟩
        cases s3
        · go_wp2_with fail
          refine (PL.out _).mono ?_
          rintro r w' ⟨rfl, hb⟩
          have HB := Lib.hid (bcall HB.out hb)
          clear hb
          go_wp2_with fail
          go_meet
          exact ⟨rfl, HB.out⟩
        go_wp2_with fail
        refine (PL.out _).mono ?_
        rintro r w' ⟨rfl, hb⟩
        have HB := Lib.hid (bcall HB.out hb)
        clear hb
        go_wp2_with fail
        go_meet
        exact ⟨rfl, HB.out⟩
      cases s2
      · go_wp2_with fail
        go_meet
        exact ⟨rfl, HB.out⟩
      cases z3
      rotate_left
      · go_wp2_with fail
        go_meet
        exact ⟨rfl, HB.out⟩
      cases s3
      · go_wp2_with fail
        refine (PL.out _).mono ?_
        rintro r w' ⟨rfl, hb⟩
        have HB := Lib.hid (bcall HB.out hb)
        clear hb
        go_wp2_with fail
        go_meet
        exact ⟨rfl, HB.out⟩
      go_wp2_with fail
      refine (PL.out _).mono ?_
      rintro r w' ⟨rfl, hb⟩
      have HB := Lib.hid (bcall HB.out hb)
      clear hb
      go_wp2_with fail
      go_meet
      exact ⟨rfl, HB.out⟩
    go_wp2_with fail
    go_meet
    exact ⟨rfl, HB.out⟩
  case rest =>
    obtain ⟨rfl, hbc⟩ := hcut
    have C0 := Lib.hid (C0.out.below hbc)
    have HB := Lib.hid (bcall HB.out hbc)
    clear hbc A0 PL n0 n1 n2 n3 m0 m1 m2 m3 q1 q2 r1 r2
    generalize hzz : (z0 && ((z1 || s1) && ((z2 || s2) && (z3 || s3)))) = zz at *
    have HK := Lib.hid (show y = (zz && ((z4 || s4) && ((z5 || s5) && (z6 || s6)))) from by rw [HK.out, ← hzz]; simp only [Bool.and_assoc])
    clear hzz
    have c4 := C0.out.cell 4 (.string c.n0) rfl
    have c5 := C0.out.cell 5 (.string c.n1) rfl
    have c6 := C0.out.cell 6 (.string c.id) rfl
    clear C0
    cases zz
    · go_wp2
      go_ret
      exact ⟨bool_eq HK.out.symm, HB.out⟩
    cases z4
    rotate_left
    · cases z5
      rotate_left
      · cases z6
        rotate_left
        · go_wp2
          go_ret
          exact ⟨bool_eq HK.out.symm, HB.out⟩
        cases s6
        · go_wp2
          go_ret
          exact ⟨bool_eq HK.out.symm, HB.out⟩
        go_wp2
        go_ret
        exact ⟨bool_eq HK.out.symm, HB.out⟩
      cases s5
      · go_wp2
        go_ret
        exact ⟨bool_eq HK.out.symm, HB.out⟩
      cases z6
      rotate_left
      · go_wp2
        go_ret
        exact ⟨bool_eq HK.out.symm, HB.out⟩
      cases s6
      · go_wp2
        go_ret
        exact ⟨bool_eq HK.out.symm, HB.out⟩
      go_wp2
      go_ret
      exact ⟨bool_eq HK.out.symm, HB.out⟩
    cases s4
    · go_wp2
      go_ret
      exact ⟨bool_eq HK.out.symm, HB.out⟩
    cases z5
    rotate_left
    · cases z6
      rotate_left
      · go_wp2
        go_ret
        exact ⟨bool_eq HK.out.symm, HB.out⟩
      cases s6
      · go_wp2
        go_ret
        exact ⟨bool_eq HK.out.symm, HB.out⟩
      go_wp2
      go_ret
      exact ⟨bool_eq HK.out.symm, HB.out⟩
    cases s5
    · go_wp2
      go_ret
      exact ⟨bool_eq HK.out.symm, HB.out⟩
    cases z6
    rotate_left
    · go_wp2
      go_ret
      exact ⟨bool_eq HK.out.symm, HB.out⟩
    cases s6
    · go_wp2
      go_ret
      exact ⟨bool_eq HK.out.symm, HB.out⟩
    go_wp2
    go_ret
    exact ⟨bool_eq HK.out.symm, HB.out⟩
end Go.Proofs.YtpkmpinbpfblfaaGreatDoor.Ko
