/-
  A TLV's messages and what is known behind it: the document's answer. Conditions: what is known may be; the data aren't long.
-/
import Derived.Test.YtjhfpobjbijcpaaGreatDoorB13
import Derived.Test.YtjhfpobjbijcpaaGreatDoorB19
import Derived.Test.YtjhfpobjbijcpaaGreatDoorB37
import Derived.Test.YtjhfpobjbijcpaaGreatDoorB39
import Derived.Test.YtjhfpobjbijcpaaGreatDoorB42
namespace Go.Proofs.YtjhfpobjbijcpaaGreatDoor.I3
open Go.ChangeShapes Go.WideShapes Go.ChangeAt Go.RowKit
open Go.Proofs.YtjhfpobjbijcpaaGreatDoor.Ms
open Go.Proofs.YtjhfpobjbijcpaaGreatDoor.Box
open Go.Proofs.YtjhfpobjbijcpaaGreatDoor.An
open Go.Proofs.YtjhfpobjbijcpaaGreatDoor.K1
open Go.Proofs.YtjhfpobjbijcpaaGreatDoor.Kb
open Go.Proofs.YtjhfpobjbijcpaaGreatDoor.I1
open Go.Proofs.YtjhfpobjbijcpaaGreatDoor.G1 (outF)
open Go.Proofs.YtjhfpobjbijcpaaGreatDoor.J1 (outJ)
open Go.Proofs.YtjhfpobjbijcpaaGreatDoor.Tl (cellsT)
open Go.Proofs.YtjhfpobjbijcpaaGreatDoor.Hs
open Go.Proofs.YtjhfpobjbijcpaaGreatDoor.Hy (H.one H.two wp_valW)
open Go.Proofs.YtjhfpobjbijcpaaGreatDoor.Bk (Bk wpList_builtK run_loadK loadVarK alloc_size)
open Go.Proofs.YtjhfpobjbijcpaaGreatDoor.K6 (infoX)
set_option linter.unusedVariables false
set_option maxRecDepth 100000
set_option maxRecDepth 100000
/-- A message's answer stands: the own Subs begin at block B. -/
theorem AnsB.parts {p : M × Bool × Int} {w : World} {e : Ending} {w' : World} (h : AnsB p w e w') : ∃ n : M, e = .returned (.tuple #[.agg n.cells, .bool p.2.1, .int .i64 p.2.2]) ∧ Pl n p.1 ∧ Sx.Lst w.heap.size w' (.slice n.sa n.sl.length n.sc) n.sl ∧ Below w.heap.size w w' := by
  obtain ⟨sa, sc, h1, h3, h4⟩ := h
  exact ⟨_, h1, rfl, h3, h4⟩
/-- What the boxes hold: what is known, the TLV, the result's. -/
structure St (w : World) (c : Kx) (x : F1.T) (W : World) : Prop where
  s0 : Bk 44 W w.heap.size c.cells
  t0 : Bk 79 W (w.heap.size + 1) (cellsT x)
  r0 : Bk 44 W (w.heap.size + 1 + 1) Kx.zero.cells
  bel : Below w.heap.size w W
theorem St.call {w V W : World} {c : Kx} {x : F1.T} (h : St w c x V) (hb : Below V.heap.size V W) : St w c x W := ⟨h.s0.below hb, h.t0.below hb, h.r0.below hb, bcall h.bel hb⟩
theorem St.row {w V : World} {c : Kx} {x : F1.T} (h : St w c x V) {g : Nat} (hg : w.heap.size + 1 + 1 < g) (cs : Array Value) : St w c x (V.setRow g cs) := ⟨h.s0.row (by omega) _, h.t0.row (by omega) _, h.r0.row (by omega) _, Box.below_setRow h.bel (by omega) _⟩
theorem St.start (w : World) (c : Kx) (x : F1.T) : St w c x (((w.alloc (.cells c.cells 44)).alloc (.cells (cellsT x) 79)).alloc (.cells Kx.zero.cells 44)) := by
  refine ⟨((Bk.Bk.new 44 w c.cells).old _).old _, ?_, ?_, balloc (balloc (balloc (Below.refl _ w) _) _) _⟩
  · have := Bk.Bk.new 79 (w.alloc (.cells c.cells 44)) (cellsT x)
    rw [alloc_size] at this
    exact this.old _
  · have := Bk.Bk.new 44 ((w.alloc (.cells c.cells 44)).alloc (.cells (cellsT x) 79)) Kx.zero.cells
    rw [alloc_size, alloc_size] at this
    exact this
/-- An answer that the caller stores into its own result, and hands on. -/
theorem AnsC.on {p : Kx × List M × Int} {w W w1 : World} {a : Option Addr} {k : Nat} {l : List M} {g : Nat} (hp : PlL l p.2.1) (hm : MOwn W.heap.size w1 a l) (hb : Below w.heap.size w w1) (hg : w.heap.size ≤ g) (hz : g < W.heap.size) : AnsC p w (.returned (.tuple #[.agg p.1.cells, .slice a l.length k, .int .i64 p.2.2])) (w1.setRow g p.1.cells) :=
  ⟨a, k, l, rfl, hp, (hm.under hz _).mono (by omega), Box.below_setRow hb hg _⟩
set_option maxHeartbeats 6400000 in
set_option maxRecDepth 100000 in
theorem rone_known (c : Kx) (a t : Int) (d : ByteArray) (w : World) (hc : okC c = true) (hs : d.size ≤ 100000) (h : t = 6 ∨ t = 7 ∨ t = 8) : Calls Tryz.prog 46 #[.agg c.cells, .agg (cellsT (a, (d, t)))] w (AnsC (one c t d) w) := by
  have P1 := Lib.hid (fun V => K8.rstep_any c a t d V h hc hs)
  have HY := Lib.hid (one_c (t := t) (by omega) (by omega) c d)
  generalize outC c t d = q at *
  rw [HY.out]
  clear HY hc hs
  rcases h with rfl | rfl | rfl
  · go_enter Tryz.func46, Tryz.ntmps46
    go_upto_region 1 with fail
    change Code.wp _ _ _ _ (((w.alloc (.cells c.cells 44)).alloc (.cells (cellsT (a, (d, 6))) 79)).alloc (.cells Kx.zero.cells 44))
    have D := Lib.hid (St.start w c (a, (d, 6)))
    generalize ((w.alloc (.cells c.cells 44)).alloc (.cells (cellsT (a, (d, 6))) 79)).alloc (.cells Kx.zero.cells 44) = W0 at *
    go_upto_region 2 with fail
    change Code.wp _ _ _ _ (W0.alloc (.cells M.zero.cells 38))
    have X0 := Lib.hid (Bx.new W0 M.zero)
    have hlt := D.out.r0.lt
    have bel := balloc (Below.refl _ W0) (.cells M.zero.cells 38)
    have D := Lib.hid (D.out.call bel)
    clear bel
    have hzV : W0.heap.size < (W0.alloc (.cells M.zero.cells 38)).heap.size := X0.out.lt
    generalize W0.alloc (.cells M.zero.cells 38) = V at *
    generalize W0.heap.size = g at *
    have ct := D.out.t0.cell 0 (.int .i64 6) rfl
    go_wp2_with (first | (refine wpList_loadX (b := w.heap.size) (m := c) rfl _ rfl rfl D.out.s0 ?_) | (refine Bk.wpList_loadK (b := w.heap.size + 1) Tl.shT rfl _ rfl rfl D.out.t0 rfl ?_))
    refine (P1.out _).mono ?_
    rintro e w1 ⟨qa, qk, l, rfl, hp, hm, hb⟩
    have D := Lib.hid (D.out.call hb)
    clear hb P1 ct
    go_wp2_with (first | (refine wpList_storeX (b := w.heap.size + 1 + 1) (m := Kx.zero) (m' := q.1) rfl _ _ rfl rfl rfl D.out.r0 ?_))
    exact bodyPost_ret (v := .tuple #[.agg (Kx.cells q.1), .slice qa l.length qk, .int .i64 q.2.2]) (results_three rfl _ _ (w.heap.size + 1 + 1) _ rfl (loadVarK shX (D.out.r0.put (Kx.cells q.1)) rfl) (.slice qa l.length qk) rfl (.int .i64 q.2.2) rfl) rfl (AnsC.on hp hm D.out.bel (by omega) (by omega))
  · go_enter Tryz.func46, Tryz.ntmps46
    go_upto_region 1 with fail
    change Code.wp _ _ _ _ (((w.alloc (.cells c.cells 44)).alloc (.cells (cellsT (a, (d, 7))) 79)).alloc (.cells Kx.zero.cells 44))
    have D := Lib.hid (St.start w c (a, (d, 7)))
    generalize ((w.alloc (.cells c.cells 44)).alloc (.cells (cellsT (a, (d, 7))) 79)).alloc (.cells Kx.zero.cells 44) = W0 at *
    go_upto_region 2 with fail
    change Code.wp _ _ _ _ (W0.alloc (.cells M.zero.cells 38))
    have X0 := Lib.hid (Bx.new W0 M.zero)
    have hlt := D.out.r0.lt
    have bel := balloc (Below.refl _ W0) (.cells M.zero.cells 38)
    have D := Lib.hid (D.out.call bel)
    clear bel
    have hzV : W0.heap.size < (W0.alloc (.cells M.zero.cells 38)).heap.size := X0.out.lt
    generalize W0.alloc (.cells M.zero.cells 38) = V at *
    generalize W0.heap.size = g at *
    have ct := D.out.t0.cell 0 (.int .i64 7) rfl
    go_wp2_with (first | (refine wpList_loadX (b := w.heap.size) (m := c) rfl _ rfl rfl D.out.s0 ?_) | (refine Bk.wpList_loadK (b := w.heap.size + 1) Tl.shT rfl _ rfl rfl D.out.t0 rfl ?_))
    refine (P1.out _).mono ?_
    rintro e w1 ⟨qa, qk, l, rfl, hp, hm, hb⟩
    have D := Lib.hid (D.out.call hb)
    clear hb P1 ct
    go_wp2_with (first | (refine wpList_storeX (b := w.heap.size + 1 + 1) (m := Kx.zero) (m' := q.1) rfl _ _ rfl rfl rfl D.out.r0 ?_))
    exact bodyPost_ret (v := .tuple #[.agg (Kx.cells q.1), .slice qa l.length qk, .int .i64 q.2.2]) (results_three rfl _ _ (w.heap.size + 1 + 1) _ rfl (loadVarK shX (D.out.r0.put (Kx.cells q.1)) rfl) (.slice qa l.length qk) rfl (.int .i64 q.2.2) rfl) rfl (AnsC.on hp hm D.out.bel (by omega) (by omega))
  · go_enter Tryz.func46, Tryz.ntmps46
    go_upto_region 1 with fail
    change Code.wp _ _ _ _ (((w.alloc (.cells c.cells 44)).alloc (.cells (cellsT (a, (d, 8))) 79)).alloc (.cells Kx.zero.cells 44))
    have D := Lib.hid (St.start w c (a, (d, 8)))
    generalize ((w.alloc (.cells c.cells 44)).alloc (.cells (cellsT (a, (d, 8))) 79)).alloc (.cells Kx.zero.cells 44) = W0 at *
    go_upto_region 2 with fail
    change Code.wp _ _ _ _ (W0.alloc (.cells M.zero.cells 38))
    have X0 := Lib.hid (Bx.new W0 M.zero)
    have hlt := D.out.r0.lt
    have bel := balloc (Below.refl _ W0) (.cells M.zero.cells 38)
    have D := Lib.hid (D.out.call bel)
    clear bel
    have hzV : W0.heap.size < (W0.alloc (.cells M.zero.cells 38)).heap.size := X0.out.lt
    generalize W0.alloc (.cells M.zero.cells 38) = V at *
    generalize W0.heap.size = g at *
    have ct := D.out.t0.cell 0 (.int .i64 8) rfl
    go_wp2_with (first | (refine wpList_loadX (b := w.heap.size) (m := c) rfl _ rfl rfl D.out.s0 ?_) | (refine Bk.wpList_loadK (b := w.heap.size + 1) Tl.shT rfl _ rfl rfl D.out.t0 rfl ?_))
    refine (P1.out _).mono ?_
    rintro e w1 ⟨qa, qk, l, rfl, hp, hm, hb⟩
    have D := Lib.hid (D.out.call hb)
    clear hb P1 ct
    go_wp2_with (first | (refine wpList_storeX (b := w.heap.size + 1 + 1) (m := Kx.zero) (m' := q.1) rfl _ _ rfl rfl rfl D.out.r0 ?_))
    exact bodyPost_ret (v := .tuple #[.agg (Kx.cells q.1), .slice qa l.length qk, .int .i64 q.2.2]) (results_three rfl _ _ (w.heap.size + 1 + 1) _ rfl (loadVarK shX (D.out.r0.put (Kx.cells q.1)) rfl) (.slice qa l.length qk) rfl (.int .i64 q.2.2) rfl) rfl (AnsC.on hp hm D.out.bel (by omega) (by omega))
set_option maxHeartbeats 6400000 in
set_option maxRecDepth 100000 in
theorem rone_pad (c : Kx) (a t : Int) (d : ByteArray) (w : World) (h : t = 0 ∨ t = 1) : Calls Tryz.prog 46 #[.agg c.cells, .agg (cellsT (a, (d, t)))] w (AnsC (one c t d) w) := by
  have HY := Lib.hid (one_pad h c d)
  rcases h with rfl | rfl
  · go_enter Tryz.func46, Tryz.ntmps46
    go_upto_region 1 with fail
    change Code.wp _ _ _ _ (((w.alloc (.cells c.cells 44)).alloc (.cells (cellsT (a, (d, 0))) 79)).alloc (.cells Kx.zero.cells 44))
    have D := Lib.hid (St.start w c (a, (d, 0)))
    generalize ((w.alloc (.cells c.cells 44)).alloc (.cells (cellsT (a, (d, 0))) 79)).alloc (.cells Kx.zero.cells 44) = W0 at *
    go_upto_region 2 with fail
    change Code.wp _ _ _ _ (W0.alloc (.cells M.zero.cells 38))
    have X0 := Lib.hid (Bx.new W0 M.zero)
    have hlt := D.out.r0.lt
    have bel := balloc (Below.refl _ W0) (.cells M.zero.cells 38)
    have D := Lib.hid (D.out.call bel)
    clear bel
    have hzV : W0.heap.size < (W0.alloc (.cells M.zero.cells 38)).heap.size := X0.out.lt
    generalize W0.alloc (.cells M.zero.cells 38) = V at *
    generalize W0.heap.size = g at *
    have ct := D.out.t0.cell 0 (.int .i64 0) rfl
    go_wp2_with (first | (refine wpList_loadX (b := w.heap.size) (m := c) rfl _ rfl rfl D.out.s0 ?_) | (refine wpList_storeX (b := w.heap.size + 1 + 1) (m := Kx.zero) (m' := c) rfl _ _ rfl rfl rfl D.out.r0 ?_))
    exact bodyPost_ret (v := .tuple #[.agg (Kx.cells c), .slice none 0 0, .int .i64 0]) (results_three rfl _ _ (w.heap.size + 1 + 1) _ rfl (loadVarK shX (D.out.r0.put (Kx.cells c)) rfl) (.slice none 0 0) rfl (.int .i64 0) rfl) rfl (AnsC.no HY.out (Box.below_setRow D.out.bel (by omega) _))
  · go_enter Tryz.func46, Tryz.ntmps46
    go_upto_region 1 with fail
    change Code.wp _ _ _ _ (((w.alloc (.cells c.cells 44)).alloc (.cells (cellsT (a, (d, 1))) 79)).alloc (.cells Kx.zero.cells 44))
    have D := Lib.hid (St.start w c (a, (d, 1)))
    generalize ((w.alloc (.cells c.cells 44)).alloc (.cells (cellsT (a, (d, 1))) 79)).alloc (.cells Kx.zero.cells 44) = W0 at *
    go_upto_region 2 with fail
    change Code.wp _ _ _ _ (W0.alloc (.cells M.zero.cells 38))
    have X0 := Lib.hid (Bx.new W0 M.zero)
    have hlt := D.out.r0.lt
    have bel := balloc (Below.refl _ W0) (.cells M.zero.cells 38)
    have D := Lib.hid (D.out.call bel)
    clear bel
    have hzV : W0.heap.size < (W0.alloc (.cells M.zero.cells 38)).heap.size := X0.out.lt
    generalize W0.alloc (.cells M.zero.cells 38) = V at *
    generalize W0.heap.size = g at *
    have ct := D.out.t0.cell 0 (.int .i64 1) rfl
    go_wp2_with (first | (refine wpList_loadX (b := w.heap.size) (m := c) rfl _ rfl rfl D.out.s0 ?_) | (refine wpList_storeX (b := w.heap.size + 1 + 1) (m := Kx.zero) (m' := c) rfl _ _ rfl rfl rfl D.out.r0 ?_))
    exact bodyPost_ret (v := .tuple #[.agg (Kx.cells c), .slice none 0 0, .int .i64 0]) (results_three rfl _ _ (w.heap.size + 1 + 1) _ rfl (loadVarK shX (D.out.r0.put (Kx.cells c)) rfl) (.slice none 0 0) rfl (.int .i64 0) rfl) rfl (AnsC.no HY.out (Box.below_setRow D.out.bel (by omega) _))
/-- The ways that tell a message: which one, and by which call. -/
theorem one_way (c : Kx) {t : Int} (d : ByteArray) (h : ¬ (t = 0 ∨ t = 1)) (h' : ¬ (t = 6 ∨ t = 7 ∨ t = 8)) : ∃ p : M × Bool × Int, one c t d = tell c p ∧ p.1.ll = [] ∧
    ((2 ≤ t ∧ t ≤ 5 ∧ p = outF t d) ∨ ((t = 9 ∨ t = 10) ∧ p = outJ t d) ∨ ((t < 0 ∨ 10 < t) ∧ p = (opM t d, true, 0))) := by
  by_cases h1 : 2 ≤ t ∧ t ≤ 5
  · exact ⟨_, one_f h1.1 h1.2 c d, (G1.out_len t d h1.1 h1.2).2.1, .inl ⟨h1.1, h1.2, rfl⟩⟩
  by_cases h2 : t = 9 ∨ t = 10
  · exact ⟨_, one_j h2 c d, (J1.out_len t d h2).2.1, .inr (.inl ⟨h2, rfl⟩)⟩
  have h3 : t < 0 ∨ 10 < t := by omega
  exact ⟨(opM t d, true, 0), one_o h3 c d, rfl, .inr (.inr ⟨h3, rfl⟩)⟩
set_option maxHeartbeats 25600000 in
set_option maxRecDepth 100000 in
theorem rone_told (c : Kx) (a t : Int) (d : ByteArray) (w : World) (hs : d.size ≤ 100000) (h0 : ¬ (t = 0 ∨ t = 1)) (h6 : ¬ (t = 6 ∨ t = 7 ∨ t = 8)) : Calls Tryz.prog 46 #[.agg c.cells, .agg (cellsT (a, (d, t)))] w (AnsC (one c t d) w) := by
  obtain ⟨p, hp1, hll, hp2⟩ := one_way c d h0 h6
  have HY := Lib.hid hp1
  have HLL := Lib.hid hll
  clear hp1 hll
  go_enter Tryz.func46, Tryz.ntmps46
  go_upto_region 1 with fail
  change Code.wp _ _ _ _ (((w.alloc (.cells c.cells 44)).alloc (.cells (cellsT (a, (d, t))) 79)).alloc (.cells Kx.zero.cells 44))
  have D := Lib.hid (St.start w c (a, (d, t)))
  generalize ((w.alloc (.cells c.cells 44)).alloc (.cells (cellsT (a, (d, t))) 79)).alloc (.cells Kx.zero.cells 44) = W0 at *
  go_upto_region 2 with fail
  change Code.wp _ _ _ _ (W0.alloc (.cells M.zero.cells 38))
  have X0 := Lib.hid (Bx.new W0 M.zero)
  have hlt := D.out.r0.lt
  have bel := balloc (Below.refl _ W0) (.cells M.zero.cells 38)
  have D := Lib.hid (D.out.call bel)
  clear bel
  have hzV : W0.heap.size < (W0.alloc (.cells M.zero.cells 38)).heap.size := X0.out.lt
  generalize W0.alloc (.cells M.zero.cells 38) = V at *
  generalize W0.heap.size = g at *
  go_upto_region 3 with fail
  go_cut [9] (fun m wx => m = .int .i64 0 ∧ wx = V)
  case first =>
    go_wp2_with fail
    go_meet
    exact ⟨rfl, rfl⟩
  case' rest =>
    obtain ⟨rfl, rfl⟩ := hcut
    go_step
    go_step
  go_cut [8, 9] (fun m8 m9 wx => ∃ n : M, m8 = .bool p.2.1 ∧ m9 = .int .i64 p.2.2 ∧ Pl n p.1 ∧ St w c (a, (d, t)) wx ∧ Bx wx g n ∧ Sx.Lst (g + 1) wx (.slice n.sa n.sl.length n.sc) n.sl)
  case first =>
    have ct := D.out.t0.cell 0 (.int .i64 t) rfl
    rcases hp2 with ⟨h2, h5, hp⟩ | ⟨h9, hp⟩ | ⟨h11, hp⟩
    · have P1 := Lib.hid (fun V => G8.rget_own t a d V h2 h5 hs)
      rw [← hp] at P1
      have h4 : t = 2 ∨ t = 3 ∨ t = 4 ∨ t = 5 := by omega
      clear hp h2 h5 h0 h6
      rcases h4 with rfl | rfl | rfl | rfl
      · go_wp2_with (first | (refine Bk.wpList_loadK (b := w.heap.size + 1) Tl.shT rfl _ rfl rfl D.out.t0 rfl ?_))
        refine (P1.out _).mono ?_
        intro e w1 ha
        obtain ⟨n, rfl, hn, hl, hb⟩ := AnsB.parts ha
        have D := Lib.hid (D.out.call hb)
        have X0 := Lib.hid (X0.out.below hb)
        clear hb ha ct
        go_wp2_with (first | (refine wpList_storeM (b := g) (m := M.zero) (m' := n) rfl _ _ rfl rfl rfl X0.out ?_))
        go_meet
        exact ⟨n, rfl, rfl, hn, D.out.row hlt _, X0.out.put, lst_under (lst_mono hl hzV) (by omega) _⟩
      · go_wp2_with (first | (refine Bk.wpList_loadK (b := w.heap.size + 1) Tl.shT rfl _ rfl rfl D.out.t0 rfl ?_))
        refine (P1.out _).mono ?_
        intro e w1 ha
        obtain ⟨n, rfl, hn, hl, hb⟩ := AnsB.parts ha
        have D := Lib.hid (D.out.call hb)
        have X0 := Lib.hid (X0.out.below hb)
        clear hb ha ct
        go_wp2_with (first | (refine wpList_storeM (b := g) (m := M.zero) (m' := n) rfl _ _ rfl rfl rfl X0.out ?_))
        go_meet
        exact ⟨n, rfl, rfl, hn, D.out.row hlt _, X0.out.put, lst_under (lst_mono hl hzV) (by omega) _⟩
      · go_wp2_with (first | (refine Bk.wpList_loadK (b := w.heap.size + 1) Tl.shT rfl _ rfl rfl D.out.t0 rfl ?_))
        refine (P1.out _).mono ?_
        intro e w1 ha
        obtain ⟨n, rfl, hn, hl, hb⟩ := AnsB.parts ha
        have D := Lib.hid (D.out.call hb)
        have X0 := Lib.hid (X0.out.below hb)
        clear hb ha ct
        go_wp2_with (first | (refine wpList_storeM (b := g) (m := M.zero) (m' := n) rfl _ _ rfl rfl rfl X0.out ?_))
        go_meet
        exact ⟨n, rfl, rfl, hn, D.out.row hlt _, X0.out.put, lst_under (lst_mono hl hzV) (by omega) _⟩
      · go_wp2_with (first | (refine Bk.wpList_loadK (b := w.heap.size + 1) Tl.shT rfl _ rfl rfl D.out.t0 rfl ?_))
        refine (P1.out _).mono ?_
        intro e w1 ha
        obtain ⟨n, rfl, hn, hl, hb⟩ := AnsB.parts ha
        have D := Lib.hid (D.out.call hb)
        have X0 := Lib.hid (X0.out.below hb)
        clear hb ha ct
        go_wp2_with (first | (refine wpList_storeM (b := g) (m := M.zero) (m' := n) rfl _ _ rfl rfl rfl X0.out ?_))
        go_meet
        exact ⟨n, rfl, rfl, hn, D.out.row hlt _, X0.out.put, lst_under (lst_mono hl hzV) (by omega) _⟩
    · have P1 := Lib.hid (fun V => J8.rget_own t a d V h9 hs)
      rw [← hp] at P1
      clear hp h0 h6
      rcases h9 with rfl | rfl
      · go_wp2_with (first | (refine Bk.wpList_loadK (b := w.heap.size + 1) Tl.shT rfl _ rfl rfl D.out.t0 rfl ?_))
        refine (P1.out _).mono ?_
        intro e w1 ha
        obtain ⟨n, rfl, hn, hl, hb⟩ := AnsB.parts ha
        have D := Lib.hid (D.out.call hb)
        have X0 := Lib.hid (X0.out.below hb)
        clear hb ha ct
        go_wp2_with (first | (refine wpList_storeM (b := g) (m := M.zero) (m' := n) rfl _ _ rfl rfl rfl X0.out ?_))
        go_meet
        exact ⟨n, rfl, rfl, hn, D.out.row hlt _, X0.out.put, lst_under (lst_mono hl hzV) (by omega) _⟩
      · go_wp2_with (first | (refine Bk.wpList_loadK (b := w.heap.size + 1) Tl.shT rfl _ rfl rfl D.out.t0 rfl ?_))
        refine (P1.out _).mono ?_
        intro e w1 ha
        obtain ⟨n, rfl, hn, hl, hb⟩ := AnsB.parts ha
        have D := Lib.hid (D.out.call hb)
        have X0 := Lib.hid (X0.out.below hb)
        clear hb ha ct
        go_wp2_with (first | (refine wpList_storeM (b := g) (m := M.zero) (m' := n) rfl _ _ rfl rfl rfl X0.out ?_))
        go_meet
        exact ⟨n, rfl, rfl, hn, D.out.row hlt _, X0.out.put, lst_under (lst_mono hl hzV) (by omega) _⟩
    · have n0 : (t == 0) = false := by simp; omega
      have n1 : (t == 1) = false := by simp; omega
      have n6 : (t == 6) = false := by simp; omega
      have n7 : (t == 7) = false := by simp; omega
      have n8 : (t == 8) = false := by simp; omega
      have n2 : (t == 2) = false := by simp; omega
      have n3 : (t == 3) = false := by simp; omega
      have n4 : (t == 4) = false := by simp; omega
      have n5 : (t == 5) = false := by simp; omega
      have n9 : (t == 9) = false := by simp; omega
      have nA : (t == 10) = false := by simp; omega
      have cd := D.out.t0.cell 2 (.string d) rfl
      subst hp
      clear h11 h0 h6
      go_wp2_with (first | (refine wpList_builtK rfl 38 _ rfl (M.cells (opM t d)) (by kernel_rfl) ?_) | (refine wpList_storeM (b := g) (m := M.zero) (m' := opM t d) rfl _ _ rfl rfl rfl X0.out ?_))
      go_meet
      exact ⟨opM t d, rfl, rfl, rfl, D.out.row hlt _, X0.out.put, Sx.Lst.nil _ _⟩
  case rest =>
    obtain ⟨n, rfl, rfl, hn, hD, hX, hL⟩ := hcut
    have D := Lib.hid hD
    have X0 := Lib.hid hX
    have HL := Lib.hid hL
    have HN := Lib.hid hn
    have hnl := (show n.ll = [] by rw [show n = _ from hn]; exact HLL.out)
    have hlc := hX.lt
    clear hD hX hL hn hp2 h0 h6
    obtain ⟨m, k, e⟩ := p
    by_cases he : e = 0
    rotate_left
    · have HY := Lib.hid (show one c t d = (c, [], e) by rw [HY.out]; unfold tell; rw [if_neg (fun h => he h.1)])
      have e1 : (e == 0) = false := by simpa using he
      have e2 : (e != 0) = true := by rw [bne, e1]; rfl
      clear he
      go_wp2_with (first | (refine wpList_loadX (b := w.heap.size) (m := c) rfl _ rfl rfl D.out.s0 ?_) | (refine wpList_storeX (b := w.heap.size + 1 + 1) (m := Kx.zero) (m' := c) rfl _ _ rfl rfl rfl D.out.r0 ?_))
      exact bodyPost_ret (v := .tuple #[.agg (Kx.cells c), .slice none 0 0, .int .i64 e]) (results_three rfl _ _ (w.heap.size + 1 + 1) _ rfl (loadVarK shX (D.out.r0.put (Kx.cells c)) rfl) (.slice none 0 0) rfl (.int .i64 e) rfl) rfl (AnsC.no HY.out (Box.below_setRow D.out.bel (by omega) _))
    subst he
    cases k with
    | false =>
      have HY := Lib.hid (show one c t d = (c, [], 0) by rw [HY.out]; unfold tell; rw [if_neg (fun h => by cases h.2)])
      go_wp2_with (first | (refine wpList_loadX (b := w.heap.size) (m := c) rfl _ rfl rfl D.out.s0 ?_) | (refine wpList_storeX (b := w.heap.size + 1 + 1) (m := Kx.zero) (m' := c) rfl _ _ rfl rfl rfl D.out.r0 ?_))
      exact bodyPost_ret (v := .tuple #[.agg (Kx.cells c), .slice none 0 0, .int .i64 0]) (results_three rfl _ _ (w.heap.size + 1 + 1) _ rfl (loadVarK shX (D.out.r0.put (Kx.cells c)) rfl) (.slice none 0 0) rfl (.int .i64 0) rfl) rfl (AnsC.no HY.out (Box.below_setRow D.out.bel (by omega) _))
    | true =>
      have HY := Lib.hid (show one c t d = (c, [m], 0) by rw [HY.out]; unfold tell; rw [if_pos ⟨rfl, rfl⟩])
      go_upto_region 23 with fail
      generalize wc = V6 at *
      refine wp_region_held_drew (S := fun X => Bk 44 X w.heap.size c.cells ∧ Bx X g n) (by kernel_rfl) ⟨D.out.s0, X0.out⟩ (fun hS => ?_)
      have R0 := Lib.hid (show Bk 44 V6.drew (w.heap.size + 1 + 1) Kx.zero.cells from D.out.r0)
      have HB := Lib.hid D.out.bel.drew
      have HL := Lib.hid (HL.out.below (Below.refl _ V6).drew)
      have hB6 : g + 1 ≤ V6.drew.heap.size := by show g + 1 ≤ V6.heap.size; omega
      have hwB : w.heap.size ≤ g + 1 := by omega
      clear D X0
      generalize V6.drew = Z0 at *
      refine H.tk (i := 0) (v := .agg c.cells) ?h0x1 hS ?_
      case h0x1 => exact (fun w hw => run_loadK shX (x := .tmp 2) rfl rfl hw.1 rfl)
      try simp only [Act.put, List.setIfInBounds_toArray, List.set_cons_zero, List.set_cons_succ]
      refine H.tk (i := 1) (v := .agg n.cells) ?h1x2 hS ?_
      case h1x2 => exact (fun w hw => run_loadM (x := .tmp 7) rfl rfl hw.2)
      try simp only [Act.put, List.setIfInBounds_toArray, List.set_cons_zero, List.set_cons_succ]
      refine H.two (i := 2) (j := 3) (by simp only [List.getElem?_toArray, List.getElem?_cons_succ, List.getElem?_cons_zero]; rfl) (by kernel_rfl) (by simp only [List.getElem?_toArray, List.getElem?_cons_succ, List.getElem?_cons_zero]; rfl) (by kernel_rfl) (by kernel_rfl) (fun K hK => ?wa3) (fun K hK => ?wb3)
      case wa3 =>
        refine wp_valW rfl (Ap.ex_bs (m := n) rfl rfl) ?_
        refine hK.out _ _ ⟨hS.1.old _, hS.2.old _⟩ ?_
        clear hK K
        have hS := (show Bk 44 (Z0.alloc (.cells n.cells 38)) w.heap.size c.cells ∧ Bx (Z0.alloc (.cells n.cells 38)) g n from ⟨hS.1.old _, hS.2.old _⟩)
        try simp only [Act.put, List.setIfInBounds_toArray, List.set_cons_zero, List.set_cons_succ]
        refine H.one (i := 3) (by simp only [List.getElem?_toArray, List.getElem?_cons_succ, List.getElem?_cons_zero]; rfl) (by kernel_rfl) (by kernel_rfl) (fun K hK => ?_)
        refine wp_store_row 44 _ _ rfl (w.heap.size + 1 + 1) c.cells rfl rfl 44 Kx.zero.cells (R0.out.old _) infoX rfl (oneX c) ?_
        refine hK.out _ _ ⟨hS.1.row (by omega) _, Bx.row hS.2 (by omega) _⟩ ?_
        clear hK K
        have hS := (show Bk 44 ((Z0.alloc (.cells n.cells 38)).setRow (w.heap.size + 1 + 1) c.cells) w.heap.size c.cells ∧ Bx ((Z0.alloc (.cells n.cells 38)).setRow (w.heap.size + 1 + 1) c.cells) g n from ⟨hS.1.row (by omega) _, Bx.row hS.2 (by omega) _⟩)
        refine H.tk (i := 4) (v := ?v4x4) ?h4x4 hS ?_
        case h4x4 => (intro w hw; go_simp; first | done | (with_reducible rfl))
        try simp only [Act.put, List.setIfInBounds_toArray, List.set_cons_zero, List.set_cons_succ]
        refine H.tk (i := 5) (v := (Value.int IntKind.i64 0)) (fun w _ => rfl) hS ?_
        try simp only [Act.put, List.setIfInBounds_toArray, List.set_cons_zero, List.set_cons_succ]
        refine wpAnyH_done (by kernel_rfl) ?_ _
        go_wp2_with fail
        exact bodyPost_ret (v := .tuple #[.agg c.cells, .slice (some ⟨Z0.heap.size, 0, none⟩) 1 1, .int .i64 0]) (results_three rfl _ _ (w.heap.size + 1 + 1) _ rfl (loadVarK shX ((R0.out.old (.cells n.cells 38)).put c.cells) rfl) (.slice (some ⟨Z0.heap.size, 0, none⟩) 1 1) rfl (.int .i64 0) rfl) rfl (AnsC.one HY.out HN.out (((one_new (n := n) hnl HL.out hB6).under (by omega) _).mono hwB) (Box.below_setRow (HB.out.alloc HB.out.size _) (by omega) _))
      case wb3 =>
        refine wp_store_row 44 _ _ rfl (w.heap.size + 1 + 1) c.cells rfl rfl 44 Kx.zero.cells R0.out infoX rfl (oneX c) ?_
        refine hK.out _ _ ⟨hS.1.row (by omega) _, Bx.row hS.2 (by omega) _⟩ ?_
        clear hK K
        have hS := (show Bk 44 (Z0.setRow (w.heap.size + 1 + 1) c.cells) w.heap.size c.cells ∧ Bx (Z0.setRow (w.heap.size + 1 + 1) c.cells) g n from ⟨hS.1.row (by omega) _, Bx.row hS.2 (by omega) _⟩)
        refine H.one (i := 2) (by simp only [List.getElem?_toArray, List.getElem?_cons_succ, List.getElem?_cons_zero]; rfl) (by kernel_rfl) (by kernel_rfl) (fun K hK => ?_)
        refine wp_valW rfl (Ap.ex_bs (m := n) rfl rfl) ?_
        refine hK.out _ _ ⟨hS.1.old _, hS.2.old _⟩ ?_
        clear hK K
        have hS := (show Bk 44 ((Z0.setRow (w.heap.size + 1 + 1) c.cells).alloc (.cells n.cells 38)) w.heap.size c.cells ∧ Bx ((Z0.setRow (w.heap.size + 1 + 1) c.cells).alloc (.cells n.cells 38)) g n from ⟨hS.1.old _, hS.2.old _⟩)
        try simp only [Act.put, List.setIfInBounds_toArray, List.set_cons_zero, List.set_cons_succ]
        refine H.tk (i := 4) (v := ?v4x6) ?h4x6 hS ?_
        case h4x6 => (intro w hw; go_simp; first | done | (with_reducible rfl))
        try simp only [Act.put, List.setIfInBounds_toArray, List.set_cons_zero, List.set_cons_succ]
        refine H.tk (i := 5) (v := (Value.int IntKind.i64 0)) (fun w _ => rfl) hS ?_
        try simp only [Act.put, List.setIfInBounds_toArray, List.set_cons_zero, List.set_cons_succ]
        refine wpAnyH_done (by kernel_rfl) ?_ _
        go_wp2_with fail
        exact bodyPost_ret (v := .tuple #[.agg c.cells, .slice (some ⟨Z0.heap.size, 0, none⟩) 1 1, .int .i64 0]) (results_three rfl _ _ (w.heap.size + 1 + 1) _ rfl (loadVarK shX ((R0.out.put c.cells).old (.cells n.cells 38)) rfl) (.slice (some ⟨Z0.heap.size, 0, none⟩) 1 1) rfl (.int .i64 0) rfl) rfl (AnsC.one HY.out HN.out ((by have hq := one_new (n := n) hnl (lst_under HL.out (g := w.heap.size + 1 + 1) (by omega) c.cells) (by simpa using hB6); rw [show (Z0.setRow (w.heap.size + 1 + 1) c.cells).heap.size = Z0.heap.size by simp] at hq; exact hq.mono hwB)) ((Box.below_setRow HB.out (by omega) _).alloc (by simpa using HB.out.size) _))
theorem rone_any (c : Kx) (a t : Int) (d : ByteArray) (w : World) (hc : okC c = true) (hs : d.size ≤ 100000) : Calls Tryz.prog 46 #[.agg c.cells, .agg (cellsT (a, (d, t)))] w (AnsC (one c t d) w) := by
  by_cases h0 : t = 0 ∨ t = 1
  · exact rone_pad c a t d w h0
  by_cases h6 : t = 6 ∨ t = 7 ∨ t = 8
  · exact rone_known c a t d w hc hs h6
  exact rone_told c a t d w hs h0 h6
end Go.Proofs.YtjhfpobjbijcpaaGreatDoor.I3
