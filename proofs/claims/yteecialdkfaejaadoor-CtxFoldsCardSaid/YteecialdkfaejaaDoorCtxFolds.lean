/-
  The statement CtxFolds, of any TLVs. Condition: the listed variables have what the program's text lays them with (the tied card).
-/
import Derived.Test.YteecialdkfaejaaDoorP9
import Derived.Test.YteecialdkfaejaaDoorCards
import Derived.Test.YteecialdkfaejaaDoorTie
import Derived.Lay
import Derived.SevenTiedAt
import Derived.Stop.Joined
namespace Go.Proofs.YteecialdkfaejaaDoor.ctxFolds
open Go.ChangeShapes Go.WideShapes Go.ChangeAt Go.RowKit
open Go.ChangeMaps (open_string shut_string)
open Go.Proofs.YteecialdkfaejaaDoor.Ms
open Go.Proofs.YteecialdkfaejaaDoor.Box
open Go.Proofs.YteecialdkfaejaaDoor.All
open Go.Proofs.YteecialdkfaejaaDoor.J1
open Go.Proofs.YteecialdkfaejaaDoor.An
open Go.Proofs.YteecialdkfaejaaDoor.Tc
open Go.Proofs.YteecialdkfaejaaDoor.K1
open Go.Proofs.YteecialdkfaejaaDoor.Kb
open Go.Proofs.YteecialdkfaejaaDoor.K2
open Go.Proofs.YteecialdkfaejaaDoor.K9
open Go.Proofs.YteecialdkfaejaaDoor.Hs
open Go.Proofs.YteecialdkfaejaaDoor.Open
set_option linter.unusedVariables false

open Go.Proofs.YteecialdkfaejaaDoor.Nu (text_eq ext_list)
open Go.Proofs.YteecialdkfaejaaDoor.J2 (nil_eq nil_em)
open Go.Proofs.YteecialdkfaejaaDoor.Tl (cellsT TRow)
open Go.Proofs.YteecialdkfaejaaDoor.Or (st_yes)
open Go.Proofs.YteecialdkfaejaaDoor.Hx (ex_built)
open Go.Proofs.YteecialdkfaejaaDoor.Hy (H.one H.two wp_valW)
open Go.Proofs.YteecialdkfaejaaDoor.Bk (Bk wpList_builtK run_loadK alloc_size)
open Go.Proofs.YteecialdkfaejaaDoor.F1 (bt bt_nn bt_lt)
open Go.Proofs.YteecialdkfaejaaDoor.F2 (idx sl_m sl_l)
open Go.Proofs.YteecialdkfaejaaDoor.K8 (sl_h)
open Go.Proofs.YteecialdkfaejaaDoor.K6 (infoX)
open Go.Proofs.YteecialdkfaejaaDoor.K4 (ex_indexAt)
open Go.Proofs.YteecialdkfaejaaDoor.Tl (indexT)
/-- What holds two contexts behind where the call began. -/
structure Two (w : World) (c d : Kx) (W : World) : Prop where
  s3 : Bk 27 W w.heap.size c.cells
  s4 : Bk 27 W (w.heap.size + 1) d.cells
  bel : Below w.heap.size w W
theorem Two.start (w : World) : Two w Kx.zero Kx.zero ((w.alloc (.cells Kx.zero.cells 27)).alloc (.cells Kx.zero.cells 27)) := by
  refine ⟨(Bk.Bk.new 27 w Kx.zero.cells).old _, ?_, balloc (balloc (Below.refl _ w) _) _⟩
  have := Bk.Bk.new 27 (w.alloc (.cells Kx.zero.cells 27)) Kx.zero.cells
  rw [alloc_size] at this
  exact this
theorem Two.call {w V W : World} {c d : Kx} (h : Two w c d V) (hb : Below V.heap.size V W) : Two w c d W := ⟨h.s3.below hb, h.s4.below hb, bcall h.bel hb⟩
theorem Two.put {w V : World} {c d : Kx} (h : Two w c d V) (x y : Kx) : Two w x y ((V.setRow w.heap.size x.cells).setRow (w.heap.size + 1) y.cells) :=
  ⟨(h.s3.put x.cells).row (by omega) _, (h.s4.row (by omega) x.cells).put y.cells, Box.below_setRow (Box.below_setRow h.bel (by omega) _) (by omega) _⟩
theorem one_row {W : World} {a : Option Addr} {n : M} (h : MRow W a [n]) : ∃ q : Addr, a = some q ∧ One W q n := by
  obtain ⟨p, h1, h3, h4, h5, h6⟩ := h 0 (by simp)
  refine ⟨p, h1, h3, fun j v hv => ?_, h5, h6⟩
  have := h4 j v hv
  rw [Nat.zero_mul, K9.add_zero] at this
  exact this
/-- A TLV of a list, loaded. -/
theorem tl_at {w : World} {a : Option Addr} {l : List F1.T} (h : TRow w a l) (k : Nat) (hk : k < l.length) : ∃ p : Addr, a = some p ∧ ∀ W, Below w.heap.size w W →
    W.cell? (p.add (k * 3)) = some (.int .i64 l[k].2.2) ∧ W.cell? ((p.add (k * 3)).add 1) = some (.int .i64 l[k].1) ∧ W.cell? ((p.add (k * 3)).add 2) = some (.string l[k].2.1) := by
  obtain ⟨p, rfl, _⟩ := h k hk
  refine ⟨p, rfl, fun W hb => ?_⟩
  obtain ⟨q, e, _, c0, c1, c2⟩ := (h.below hb) k hk
  obtain rfl := Option.some.inj e
  exact ⟨c0, c1, c2⟩
theorem ex_loadT {o : Oper} {ρ : Operand → Value} {x : Operand} {q : Addr} {u : F1.T} {w : World} (ho : o.op = .load 29 x) (hx : ρ x = .pointer (some q))
    (h : w.cell? q = some (.int .i64 u.2.2) ∧ w.cell? (q.add 1) = some (.int .i64 u.1) ∧ w.cell? (q.add 2) = some (.string u.2.1)) : (execOp ρ o).run Tryd.prog w = .ok (.value (.agg (cellsT u))) w := by
  have hl : (loadCells q 3).run Tryd.prog w = .ok (cellsT u) w := by
    have := run_loadCells_list (P := Tryd.prog) w q (cellsT u).toList (fun j v hv => by
      match j, hv with
      | 0, hv => rw [show q.add 0 = q from K9.add_zero q]; exact h.1.trans hv
      | 1, hv => exact h.2.1.trans hv
      | 2, hv => exact h.2.2.trans hv
      | j + 3, hv => cases hv)
    rw [show (cellsT u).toList.length = 3 from rfl] at this
    rw [this]
  have hagg : (isAgg 29).run Tryd.prog w = .ok true w := by go_simp
  have hsz : (sizeOf 29).run Tryd.prog w = .ok 3 w := by go_simp
  unfold execOp
  simp only [ho, hx, Instr.loadAt, Instr.sureAddr, Sem.run_bind, Sem.run_pure, Result.andThen_ok, loadVar, hagg, if_true, hsz, hl]
theorem pfx_short {n : M} (h : okU n = true) : n.pfx.size ≤ maxLen := by
  have h := h
  unfold okU at h
  simp only [Bool.and_eq_true] at h
  have ha := in_adr h.2.2.2.1
  unfold adrB at ha
  unfold maxLen
  split at ha
  · have := of_decide_eq_true ha; omega
  split at ha
  · have := of_decide_eq_true ha; omega
  split at ha
  · have := of_decide_eq_true ha; omega
  split at ha
  · have := Lk.link_size ha; omega
  · cases ha

set_option maxHeartbeats 51200000 in
set_option maxRecDepth 100000 in
theorem walk (a : Option Addr) (l : List F1.T) (kc : Nat) (w : World) (hl : TRow w a l) (hn : l.length ≤ 9223372036854775807) (ht : Tab w) :
    Calls Tryd.prog 3 #[.slice a l.length kc] w fun r w' => r = .returned (.bool true) ∧ Below w.heap.size w w' := by
  have HT := Lib.hid ht
  have HL := Lib.hid hl
  have h1 := ht.pos
  clear ht hl
  by_cases h40 : 40 < l.length
  · have h40' : (40 : Int) < (l.length : Int) := by omega
    go_enter Tryd.func3, Tryd.ntmps3
    go_wp2_with fail
    refine (awake_any _ HT.out).mono ?_
    rintro r w1 ⟨rfl, hb⟩
    have HB := Lib.hid hb
    clear hb
    go_wp2
    go_ret
    exact ⟨rfl, HB.out⟩
  have h40' : ¬ (40 : Int) < (l.length : Int) := by omega
  have D := Lib.hid (Two.start w)
  go_enter Tryd.func3, Tryd.ntmps3
  go_upto_region 4 with fail
  clear h40'
  change Code.wp _ _ _ _ ((w.alloc (.cells Kx.zero.cells 27)).alloc (.cells Kx.zero.cells 27))
  generalize (w.alloc (.cells Kx.zero.cells 27)).alloc (.cells Kx.zero.cells 27) = V at *
  go_wp2
  go_loopw [5] (fun i wr => ∃ (k : Nat) (c : Kx), k ≤ l.length ∧ i = .int .i64 k ∧ Hid (okC c = true) ∧ Hid (Two w c c wr)) (fun i _ => l.length - (intOf i).toNat)
  case atStart => exact ⟨0, Kx.zero, Nat.zero_le _, rfl, Lib.hid (by decide), D⟩
  case round =>
    clear D
    obtain ⟨k, c, hk, rfl, HC, D⟩ := hrel
    by_cases hlt : k < l.length
    rotate_left
    · obtain rfl : k = l.length := by omega
      go_wp2_with fail
      refine (awake_any _ (HT.out.below D.out.bel)).mono ?_
      rintro r w1 ⟨rfl, hb⟩
      have HB := Lib.hid (bcall D.out.bel hb)
      clear hb
      go_wp2
      go_ret
      exact ⟨rfl, HB.out⟩
    obtain ⟨p, rfl, hat⟩ := tl_at HL.out k hlt
    have HA := Lib.hid hat
    have ix := fun W => indexT p l.length kc k hlt W
    clear hat
    generalize l[k] = u at *
    obtain ⟨at0, d, n⟩ := u
    simp only [] at HA
    obtain ⟨c0, c1, c2⟩ := HA.out _ D.out.bel
    rw [show ∀ q : Addr, q.add 2 = ⟨q.block, q.off + 2, none⟩ from Tl.add_two] at c2
    clear c1
    by_cases h6 : n < 6
    · go_wp2
      go_roundw
      case rel => exact ⟨k + 1, c, hlt, by go_num, HC, D⟩
      case measure => simp [intOf]; omega
    by_cases h8 : 8 < n
    · go_wp2
      go_roundw
      case rel => exact ⟨k + 1, c, hlt, by go_num, HC, D⟩
      case measure => simp [intOf]; omega
    by_cases h255 : 255 < d.size
    · have h255' : 255 < (d.size : Int) := by omega

      go_wp2
      go_roundw
      case rel => exact ⟨k + 1, c, hlt, by go_num, HC, D⟩
      case measure => simp [intOf]; omega
    have h255' : ¬ 255 < (d.size : Int) := by omega
    have P1 := Lib.hid (fun V (y : Tab V) => K6.step_any c at0 n d V (show n = 6 ∨ n = 7 ∨ n = 8 by omega) HC.out (by omega) y)
    have P2 := Lib.hid (fun V (y : Tab V) => K8.rstep_any c at0 n d V (show n = 6 ∨ n = 7 ∨ n = 8 by omega) HC.out (by omega))
    have HG := Lib.hid (out_good n d HC.out)
    have HS := Lib.hid (out_short n d HC.out)
    go_upto_region 8 with fail
    clear c0 c2 h6 h8 h255 h255'
    generalize outC c n d = q at *
    have S3 := Lib.hid D.out.s3
    have S4 := Lib.hid D.out.s4
    have HB := Lib.hid D.out.bel
    have hwr := S4.out.lt
    clear D
    go_upto_region 8 with fail
    go_cut [6, 7, 8] (fun m1 m2 m3 wx => ∃ (g : Nat) (qa : Option Addr) (qk : Nat) (ls : List M), m1 = .pointer (some ⟨g, 0, none⟩) ∧ m2 = .slice qa ls.length qk ∧ m3 = .int .i64 q.2.2 ∧ PlL ls q.2.1 ∧ MRow wx qa ls ∧ Bk 27 wx g q.1.cells ∧ wr.heap.size ≤ g ∧ Below wr.heap.size wr wx)
    case first =>
      refine wp_region_held_drew (S := fun W => Below wr.heap.size wr W) (by kernel_rfl) (Below.refl _ wr).drew (fun hS => ?_)
      have hz0 := hS.size
      generalize wr.drew = X0 at *
      refine H.tk (i := 0) (v := .agg c.cells) ?h0x1 hS ?_
      case h0x1 => exact (fun w hw => run_loadK shX (x := .tmp 3) rfl rfl (S3.out.below hw) rfl)
      try simp only [Act.put, List.setIfInBounds_toArray, List.set_cons_zero, List.set_cons_succ]
      refine H.tk (i := 1) (v := ?v1x2) ?h1x2 hS ?_
      case h1x2 => (intro w hw; go_simp; first | done | (with_reducible rfl))
      try simp only [Act.put, List.setIfInBounds_toArray, List.set_cons_zero, List.set_cons_succ]
      refine H.tk (i := 2) (v := ?v2x3) ?h2x3 hS ?_
      case h2x3 => (intro w hw; go_simp; first | done | (with_reducible rfl))
      try simp only [Act.put, List.setIfInBounds_toArray, List.set_cons_zero, List.set_cons_succ]
      refine H.tk (i := 3) (v := .pointer (some (p.add (k * 3)))) ?h3x4 hS ?_
      case h3x4 => exact (fun w hw => ex_indexAt rfl rfl rfl (ix w))
      try simp only [Act.put, List.setIfInBounds_toArray, List.set_cons_zero, List.set_cons_succ]
      refine H.tk (i := 4) (v := .agg (cellsT (at0, (d, n)))) ?h4x5 hS ?_
      case h4x5 => exact (fun w hw => ex_loadT (x := .tmp 49) rfl rfl (HA.out w (bcall HB.out hw)))
      try simp only [Act.put, List.setIfInBounds_toArray, List.set_cons_zero, List.set_cons_succ]
      refine H.two (i := 5) (j := 10) (by simp only [List.getElem?_toArray, List.getElem?_cons_succ, List.getElem?_cons_zero]; rfl) (by kernel_rfl) (by simp only [List.getElem?_toArray, List.getElem?_cons_succ, List.getElem?_cons_zero]; rfl) (by kernel_rfl) (by kernel_rfl) (fun K hK => ?wa6) (fun K hK => ?wb6)
      case wa6 =>
        go_simp
        refine (P1.out _ (HT.out.below (bcall HB.out (id hS)))).mono ?_
        rintro e X1 ⟨qa, qk, ls, rfl, hp, hm, hb⟩
        refine hK.out _ _ (bcall hS hb) ?_
        clear hK K
        have hS' := bcall hS hb
        clear hS
        have hS := hS'
        clear hS'
        have hz1 := hS.size
        have HP := Lib.hid hp
        have HM := Lib.hid hm
        clear hb hm hp
        try simp only [Act.put, List.setIfInBounds_toArray, List.set_cons_zero, List.set_cons_succ]
        refine H.tk (i := 6) (v := .tuple #[.agg q.1.cells, .slice qa ls.length qk, .int .i64 q.2.2]) ?h6x7 hS ?_
        case h6x7 => exact (fun w hw => by go_simp)
        try simp only [Act.put, List.setIfInBounds_toArray, List.set_cons_zero, List.set_cons_succ]
        refine H.tk (i := 7) (v := .agg q.1.cells) ?h7x8 hS ?_
        case h7x8 => exact (fun w hw => by go_simp)
        try simp only [Act.put, List.setIfInBounds_toArray, List.set_cons_zero, List.set_cons_succ]
        refine H.tk (i := 8) (v := .slice qa ls.length qk) ?h8x9 hS ?_
        case h8x9 => exact (fun w hw => by go_simp)
        try simp only [Act.put, List.setIfInBounds_toArray, List.set_cons_zero, List.set_cons_succ]
        refine H.tk (i := 9) (v := .int .i64 q.2.2) ?h9x10 hS ?_
        case h9x10 => exact (fun w hw => by go_simp)
        try simp only [Act.put, List.setIfInBounds_toArray, List.set_cons_zero, List.set_cons_succ]
        refine H.one (i := 10) (by simp only [List.getElem?_toArray, List.getElem?_cons_succ, List.getElem?_cons_zero]; rfl) (by kernel_rfl) (by kernel_rfl) (fun K hK => ?_)
        go_simp
        refine hK.out _ _ (balloc hS (.cells Kx.zero.cells 27)) ?_
        clear hK K
        change wpAnyH _ _ _ _ _ _ _ _ (X1.alloc (.cells Kx.zero.cells 27))
        have hS1 := Lib.hid hS
        have hS' := balloc hS (.cells Kx.zero.cells 27)
        clear hS
        have hS := hS'
        clear hS'
        try simp only [Act.put, List.setIfInBounds_toArray, List.set_cons_zero, List.set_cons_succ]
        refine H.one (i := 11) (by simp only [List.getElem?_toArray, List.getElem?_cons_succ, List.getElem?_cons_zero]; rfl) (by kernel_rfl) (by kernel_rfl) (fun K hK => ?_)
        refine wp_store_row 27 _ _ rfl X1.heap.size q.1.cells rfl rfl 27 Kx.zero.cells (heap_alloc_new _ _) infoX rfl (oneX _) ?_
        rw [World.setRow_alloc_new]
        refine hK.out _ _ (balloc hS1.out (.cells q.1.cells 27)) ?_
        clear hK K hS
        have hS := balloc hS1.out (.cells q.1.cells 27)
        have G0 := Lib.hid (Bk.Bk.new 27 X1 q.1.cells)
        have HM := Lib.hid (HM.out.row.below (balloc (Below.refl _ X1) (.cells q.1.cells 27)))
        generalize X1.alloc (.cells q.1.cells 27) = Y at *
        clear hS1
        try simp only [Act.put]
        refine H.tk (i := 12) (v := .slice qa ls.length qk) ?h12x11 hS ?_
        case h12x11 => exact (fun w hw => by go_simp)
        try simp only [Act.put, List.setIfInBounds_toArray, List.set_cons_zero, List.set_cons_succ]
        refine H.tk (i := 13) (v := .int .i64 q.2.2) ?h13x12 hS ?_
        case h13x12 => exact (fun w hw => by go_simp)
        try simp only [Act.put, List.setIfInBounds_toArray, List.set_cons_zero, List.set_cons_succ]
        refine wpAnyH_done (by kernel_rfl) ?_ _
        go_wp2_with fail
        go_meet
        exact ⟨X1.heap.size, qa, qk, ls, rfl, rfl, rfl, HP.out, HM.out, G0.out, hz1, hS⟩
      case wb6 =>
        go_simp
        refine hK.out _ _ (balloc hS (.cells Kx.zero.cells 27)) ?_
        clear hK K
        change wpAnyH _ _ _ _ _ _ _ _ (X0.alloc (.cells Kx.zero.cells 27))
        have G0 := Lib.hid (Bk.Bk.new 27 X0 Kx.zero.cells)
        have hS' := balloc hS (.cells Kx.zero.cells 27)
        clear hS
        have hS := hS'
        clear hS'
        generalize X0.alloc (.cells Kx.zero.cells 27) = Y at *
        generalize X0.heap.size = g at *
        try simp only [Act.put, List.setIfInBounds_toArray, List.set_cons_zero, List.set_cons_succ]
        refine H.one (i := 5) (by simp only [List.getElem?_toArray, List.getElem?_cons_succ, List.getElem?_cons_zero]; rfl) (by kernel_rfl) (by kernel_rfl) (fun K hK => ?_)
        go_simp
        refine (P1.out _ (HT.out.below (bcall HB.out (id hS)))).mono ?_
        rintro e X1 ⟨qa, qk, ls, rfl, hp, hm, hb⟩
        refine hK.out _ _ (bcall hS hb) ?_
        clear hK K
        have hS' := bcall hS hb
        have hgY := G0.out.lt
        have G0 := Lib.hid (G0.out.below hb)
        clear hS
        have hS := hS'
        clear hS'
        have hz1 := hS.size
        have HP := Lib.hid hp
        have HM := Lib.hid hm
        clear hb hm hp
        try simp only [Act.put, List.setIfInBounds_toArray, List.set_cons_zero, List.set_cons_succ]
        refine H.tk (i := 6) (v := .tuple #[.agg q.1.cells, .slice qa ls.length qk, .int .i64 q.2.2]) ?h6x13 hS ?_
        case h6x13 => exact (fun w hw => by go_simp)
        try simp only [Act.put, List.setIfInBounds_toArray, List.set_cons_zero, List.set_cons_succ]
        refine H.tk (i := 7) (v := .agg q.1.cells) ?h7x14 hS ?_
        case h7x14 => exact (fun w hw => by go_simp)
        try simp only [Act.put, List.setIfInBounds_toArray, List.set_cons_zero, List.set_cons_succ]
        refine H.tk (i := 8) (v := .slice qa ls.length qk) ?h8x15 hS ?_
        case h8x15 => exact (fun w hw => by go_simp)
        try simp only [Act.put, List.setIfInBounds_toArray, List.set_cons_zero, List.set_cons_succ]
        refine H.tk (i := 9) (v := .int .i64 q.2.2) ?h9x16 hS ?_
        case h9x16 => exact (fun w hw => by go_simp)
        try simp only [Act.put, List.setIfInBounds_toArray, List.set_cons_zero, List.set_cons_succ]
        refine H.one (i := 11) (by simp only [List.getElem?_toArray, List.getElem?_cons_succ, List.getElem?_cons_zero]; rfl) (by kernel_rfl) (by kernel_rfl) (fun K hK => ?_)
        refine wp_store_row 27 _ _ rfl g q.1.cells rfl rfl 27 Kx.zero.cells G0.out infoX rfl (oneX _) ?_
        refine hK.out _ _ (Box.below_setRow hS hz0 _) ?_
        clear hK K
        have hS' := Box.below_setRow hS hz0 q.1.cells
        clear hS
        have hS := hS'
        clear hS'
        have G0 := Lib.hid (G0.out.put q.1.cells)
        have HM := Lib.hid (HM.out.under hgY q.1.cells).row
        generalize X1.setRow g q.1.cells = Y at *
        try simp only [Act.put]
        refine H.tk (i := 12) (v := .slice qa ls.length qk) ?h12x17 hS ?_
        case h12x17 => exact (fun w hw => by go_simp)
        try simp only [Act.put, List.setIfInBounds_toArray, List.set_cons_zero, List.set_cons_succ]
        refine H.tk (i := 13) (v := .int .i64 q.2.2) ?h13x18 hS ?_
        case h13x18 => exact (fun w hw => by go_simp)
        try simp only [Act.put, List.setIfInBounds_toArray, List.set_cons_zero, List.set_cons_succ]
        refine wpAnyH_done (by kernel_rfl) ?_ _
        go_wp2_with fail
        go_meet
        exact ⟨g, qa, qk, ls, rfl, rfl, rfl, HP.out, HM.out, G0.out, hz0, hS⟩
    case rest =>
      obtain ⟨g1, qa1, qk1, l1, rfl, rfl, rfl, hp1, hm1, hx1, hg1, hb⟩ := hcut
      have S3 := Lib.hid (S3.out.below hb)
      have S4 := Lib.hid (S4.out.below hb)
      have HB := Lib.hid (bcall HB.out hb)
      have HP1 := Lib.hid hp1
      have HM1 := Lib.hid hm1
      have XS1 := Lib.hid hx1
      clear hb hp1 hm1 hx1 P1
      generalize wc = V1 at *
      go_upto_region 9 with fail
      go_cut [9, 10, 11] (fun m1 m2 m3 wx => ∃ (g : Nat) (qa : Option Addr) (qk : Nat) (ls : List M), m1 = .pointer (some ⟨g, 0, none⟩) ∧ m2 = .slice qa ls.length qk ∧ m3 = .int .i64 q.2.2 ∧ PlL ls q.2.1 ∧ MRow wx qa ls ∧ Bk 27 wx g q.1.cells ∧ V1.heap.size ≤ g ∧ Below V1.heap.size V1 wx)
      case first =>
        refine wp_region_held_drew (S := fun W => Below V1.heap.size V1 W) (by kernel_rfl) (Below.refl _ V1).drew (fun hS => ?_)
        have hz0 := hS.size
        generalize V1.drew = X0 at *
        refine H.tk (i := 0) (v := .agg c.cells) ?h0x1 hS ?_
        case h0x1 => exact (fun w hw => run_loadK shX (x := .tmp 4) rfl rfl (S4.out.below hw) rfl)
        try simp only [Act.put, List.setIfInBounds_toArray, List.set_cons_zero, List.set_cons_succ]
        refine H.tk (i := 1) (v := ?v1x2) ?h1x2 hS ?_
        case h1x2 => (intro w hw; go_simp; first | done | (with_reducible rfl))
        try simp only [Act.put, List.setIfInBounds_toArray, List.set_cons_zero, List.set_cons_succ]
        refine H.tk (i := 2) (v := ?v2x3) ?h2x3 hS ?_
        case h2x3 => (intro w hw; go_simp; first | done | (with_reducible rfl))
        try simp only [Act.put, List.setIfInBounds_toArray, List.set_cons_zero, List.set_cons_succ]
        refine H.tk (i := 3) (v := .pointer (some (p.add (k * 3)))) ?h3x4 hS ?_
        case h3x4 => exact (fun w hw => ex_indexAt rfl rfl rfl (ix w))
        try simp only [Act.put, List.setIfInBounds_toArray, List.set_cons_zero, List.set_cons_succ]
        refine H.tk (i := 4) (v := .agg (cellsT (at0, (d, n)))) ?h4x5 hS ?_
        case h4x5 => exact (fun w hw => ex_loadT (x := .tmp 59) rfl rfl (HA.out w (bcall HB.out hw)))
        try simp only [Act.put, List.setIfInBounds_toArray, List.set_cons_zero, List.set_cons_succ]
        refine H.two (i := 5) (j := 10) (by simp only [List.getElem?_toArray, List.getElem?_cons_succ, List.getElem?_cons_zero]; rfl) (by kernel_rfl) (by simp only [List.getElem?_toArray, List.getElem?_cons_succ, List.getElem?_cons_zero]; rfl) (by kernel_rfl) (by kernel_rfl) (fun K hK => ?wa6) (fun K hK => ?wb6)
        case wa6 =>
          go_simp
          refine (P2.out _ (HT.out.below (bcall HB.out (id hS)))).mono ?_
          rintro e X1 ⟨qa, qk, ls, rfl, hp, hm, hb⟩
          refine hK.out _ _ (bcall hS hb) ?_
          clear hK K
          have hS' := bcall hS hb
          clear hS
          have hS := hS'
          clear hS'
          have hz1 := hS.size
          have HP := Lib.hid hp
          have HM := Lib.hid hm
          clear hb hm hp
          try simp only [Act.put, List.setIfInBounds_toArray, List.set_cons_zero, List.set_cons_succ]
          refine H.tk (i := 6) (v := .tuple #[.agg q.1.cells, .slice qa ls.length qk, .int .i64 q.2.2]) ?h6x7 hS ?_
          case h6x7 => exact (fun w hw => by go_simp)
          try simp only [Act.put, List.setIfInBounds_toArray, List.set_cons_zero, List.set_cons_succ]
          refine H.tk (i := 7) (v := .agg q.1.cells) ?h7x8 hS ?_
          case h7x8 => exact (fun w hw => by go_simp)
          try simp only [Act.put, List.setIfInBounds_toArray, List.set_cons_zero, List.set_cons_succ]
          refine H.tk (i := 8) (v := .slice qa ls.length qk) ?h8x9 hS ?_
          case h8x9 => exact (fun w hw => by go_simp)
          try simp only [Act.put, List.setIfInBounds_toArray, List.set_cons_zero, List.set_cons_succ]
          refine H.tk (i := 9) (v := .int .i64 q.2.2) ?h9x10 hS ?_
          case h9x10 => exact (fun w hw => by go_simp)
          try simp only [Act.put, List.setIfInBounds_toArray, List.set_cons_zero, List.set_cons_succ]
          refine H.one (i := 10) (by simp only [List.getElem?_toArray, List.getElem?_cons_succ, List.getElem?_cons_zero]; rfl) (by kernel_rfl) (by kernel_rfl) (fun K hK => ?_)
          go_simp
          refine hK.out _ _ (balloc hS (.cells Kx.zero.cells 27)) ?_
          clear hK K
          change wpAnyH _ _ _ _ _ _ _ _ (X1.alloc (.cells Kx.zero.cells 27))
          have hS1 := Lib.hid hS
          have hS' := balloc hS (.cells Kx.zero.cells 27)
          clear hS
          have hS := hS'
          clear hS'
          try simp only [Act.put, List.setIfInBounds_toArray, List.set_cons_zero, List.set_cons_succ]
          refine H.one (i := 11) (by simp only [List.getElem?_toArray, List.getElem?_cons_succ, List.getElem?_cons_zero]; rfl) (by kernel_rfl) (by kernel_rfl) (fun K hK => ?_)
          refine wp_store_row 27 _ _ rfl X1.heap.size q.1.cells rfl rfl 27 Kx.zero.cells (heap_alloc_new _ _) infoX rfl (oneX _) ?_
          rw [World.setRow_alloc_new]
          refine hK.out _ _ (balloc hS1.out (.cells q.1.cells 27)) ?_
          clear hK K hS
          have hS := balloc hS1.out (.cells q.1.cells 27)
          have G0 := Lib.hid (Bk.Bk.new 27 X1 q.1.cells)
          have HM := Lib.hid (HM.out.row.below (balloc (Below.refl _ X1) (.cells q.1.cells 27)))
          generalize X1.alloc (.cells q.1.cells 27) = Y at *
          clear hS1
          try simp only [Act.put]
          refine H.tk (i := 12) (v := .slice qa ls.length qk) ?h12x11 hS ?_
          case h12x11 => exact (fun w hw => by go_simp)
          try simp only [Act.put, List.setIfInBounds_toArray, List.set_cons_zero, List.set_cons_succ]
          refine H.tk (i := 13) (v := .int .i64 q.2.2) ?h13x12 hS ?_
          case h13x12 => exact (fun w hw => by go_simp)
          try simp only [Act.put, List.setIfInBounds_toArray, List.set_cons_zero, List.set_cons_succ]
          refine wpAnyH_done (by kernel_rfl) ?_ _
          go_wp2_with fail
          go_meet
          exact ⟨X1.heap.size, qa, qk, ls, rfl, rfl, rfl, HP.out, HM.out, G0.out, hz1, hS⟩
        case wb6 =>
          go_simp
          refine hK.out _ _ (balloc hS (.cells Kx.zero.cells 27)) ?_
          clear hK K
          change wpAnyH _ _ _ _ _ _ _ _ (X0.alloc (.cells Kx.zero.cells 27))
          have G0 := Lib.hid (Bk.Bk.new 27 X0 Kx.zero.cells)
          have hS' := balloc hS (.cells Kx.zero.cells 27)
          clear hS
          have hS := hS'
          clear hS'
          generalize X0.alloc (.cells Kx.zero.cells 27) = Y at *
          generalize X0.heap.size = g at *
          try simp only [Act.put, List.setIfInBounds_toArray, List.set_cons_zero, List.set_cons_succ]
          refine H.one (i := 5) (by simp only [List.getElem?_toArray, List.getElem?_cons_succ, List.getElem?_cons_zero]; rfl) (by kernel_rfl) (by kernel_rfl) (fun K hK => ?_)
          go_simp
          refine (P2.out _ (HT.out.below (bcall HB.out (id hS)))).mono ?_
          rintro e X1 ⟨qa, qk, ls, rfl, hp, hm, hb⟩
          refine hK.out _ _ (bcall hS hb) ?_
          clear hK K
          have hS' := bcall hS hb
          have hgY := G0.out.lt
          have G0 := Lib.hid (G0.out.below hb)
          clear hS
          have hS := hS'
          clear hS'
          have hz1 := hS.size
          have HP := Lib.hid hp
          have HM := Lib.hid hm
          clear hb hm hp
          try simp only [Act.put, List.setIfInBounds_toArray, List.set_cons_zero, List.set_cons_succ]
          refine H.tk (i := 6) (v := .tuple #[.agg q.1.cells, .slice qa ls.length qk, .int .i64 q.2.2]) ?h6x13 hS ?_
          case h6x13 => exact (fun w hw => by go_simp)
          try simp only [Act.put, List.setIfInBounds_toArray, List.set_cons_zero, List.set_cons_succ]
          refine H.tk (i := 7) (v := .agg q.1.cells) ?h7x14 hS ?_
          case h7x14 => exact (fun w hw => by go_simp)
          try simp only [Act.put, List.setIfInBounds_toArray, List.set_cons_zero, List.set_cons_succ]
          refine H.tk (i := 8) (v := .slice qa ls.length qk) ?h8x15 hS ?_
          case h8x15 => exact (fun w hw => by go_simp)
          try simp only [Act.put, List.setIfInBounds_toArray, List.set_cons_zero, List.set_cons_succ]
          refine H.tk (i := 9) (v := .int .i64 q.2.2) ?h9x16 hS ?_
          case h9x16 => exact (fun w hw => by go_simp)
          try simp only [Act.put, List.setIfInBounds_toArray, List.set_cons_zero, List.set_cons_succ]
          refine H.one (i := 11) (by simp only [List.getElem?_toArray, List.getElem?_cons_succ, List.getElem?_cons_zero]; rfl) (by kernel_rfl) (by kernel_rfl) (fun K hK => ?_)
          refine wp_store_row 27 _ _ rfl g q.1.cells rfl rfl 27 Kx.zero.cells G0.out infoX rfl (oneX _) ?_
          refine hK.out _ _ (Box.below_setRow hS hz0 _) ?_
          clear hK K
          have hS' := Box.below_setRow hS hz0 q.1.cells
          clear hS
          have hS := hS'
          clear hS'
          have G0 := Lib.hid (G0.out.put q.1.cells)
          have HM := Lib.hid (HM.out.under hgY q.1.cells).row
          generalize X1.setRow g q.1.cells = Y at *
          try simp only [Act.put]
          refine H.tk (i := 12) (v := .slice qa ls.length qk) ?h12x17 hS ?_
          case h12x17 => exact (fun w hw => by go_simp)
          try simp only [Act.put, List.setIfInBounds_toArray, List.set_cons_zero, List.set_cons_succ]
          refine H.tk (i := 13) (v := .int .i64 q.2.2) ?h13x18 hS ?_
          case h13x18 => exact (fun w hw => by go_simp)
          try simp only [Act.put, List.setIfInBounds_toArray, List.set_cons_zero, List.set_cons_succ]
          refine wpAnyH_done (by kernel_rfl) ?_ _
          go_wp2_with fail
          go_meet
          exact ⟨g, qa, qk, ls, rfl, rfl, rfl, HP.out, HM.out, G0.out, hz0, hS⟩
      case rest =>

        obtain ⟨g2, qa2, qk2, l2, rfl, rfl, rfl, hp2, hm2, hx2, hg2, hb⟩ := hcut
        have hV1 := S4.out.lt
        have S3 := Lib.hid (S3.out.below hb)
        have S4 := Lib.hid (S4.out.below hb)
        have HB := Lib.hid (bcall HB.out hb)
        have HM1 := Lib.hid (HM1.out.below hb)
        have XS1 := Lib.hid (XS1.out.below hb)
        have HP2 := Lib.hid hp2
        have HM2 := Lib.hid hm2
        have XS2 := Lib.hid hx2
        clear hb hp2 hm2 hx2 P2 ix
        generalize wc = V2 at *
        obtain ⟨x, ml, er⟩ := q
        simp only [] at *
        have hse : sameL l1 l2 = true := by rw [HP1.out.same HP2.out]; exact sameL_refl _
        have hln : l1.length ≤ 1 ∧ l2.length ≤ 1 := by
          rw [HP1.out.1, HP2.out.1]
          rcases HG.out.told with h | ⟨m, h, _⟩ <;> (try simp only [] at h) <;> rw [h] <;> exact ⟨by simp, by simp⟩
        have PS := Lib.hid (fun V h h' => rsameAll_any qa1 qa2 qk1 qk2 l1 l2 V h h' (HP1.out.short HS.out) (HP2.out.short HS.out) (by omega) (by omega))
        rw [hse] at PS
        have HX := Lib.hid (show okC x = true from HG.out.ok)
        have PO := Lib.hid (fun V => ok_any x V)
        rw [HX.out] at PO
        have e0 := int_same er
        have e00 : (er != er) = false := by rw [bne, e0]; rfl
        clear hse hln
        by_cases he : er = 0
        rotate_left
        · have hq := HG.out.err he
          simp only [Prod.mk.injEq] at hq
          obtain ⟨rfl, hml, _⟩ := hq
          obtain rfl : l1 = [] := by have := HP1.out; (try simp only [] at this); rw [hml] at this; exact this.at_nil
          have e1 : (er == 0) = false := by simpa using he
          have e2 : (er != 0) = true := by rw [bne, e1]; rfl
          clear HG HS HP1 HP2 hml he
          dsimp only [List.length_nil] at *
          go_wp2_with (first | (refine wpList_loadX (b := g1) (m := x) rfl _ rfl rfl XS1.out ?_) | (refine wpList_loadX (b := g2) (m := x) rfl _ rfl rfl XS2.out ?_) | (refine st_yes (v := .bool false) (by rfl) rfl (ex_neX (c := x) (x := .tmp 65) (y := .tmp 66) rfl rfl rfl) ?_))
          refine (PS.out _ HM1.out HM2.out).mono ?_
          rintro r w7 ⟨rfl, hb⟩
          have S3 := Lib.hid (S3.out.below hb)
          have S4 := Lib.hid (S4.out.below hb)
          have XS1 := Lib.hid (XS1.out.below hb)
          have XS2 := Lib.hid (XS2.out.below hb)
          have HB := Lib.hid (bcall HB.out hb)
          clear hb PS
          go_wp2_with (first | (refine st_yes (v := .agg x.cells) (by rfl) rfl (run_loadK shX (x := .tmp 6) rfl rfl XS1.out rfl) ?_))
          refine (PO.out _).mono ?_
          rintro r w8 ⟨rfl, hb⟩
          have S3 := Lib.hid (S3.out.below hb)
          have S4 := Lib.hid (S4.out.below hb)
          have XS1 := Lib.hid (XS1.out.below hb)
          have XS2 := Lib.hid (XS2.out.below hb)
          have HB := Lib.hid (bcall HB.out hb)
          clear hb PO
          go_upto_region 12 with (first | (refine st_yes (v := .agg x.cells) (by rfl) rfl (run_loadK shX (x := .tmp 6) rfl rfl XS1.out rfl) ?_) | (refine st_yes (v := .agg x.cells) (by rfl) rfl (run_loadK shX (x := .tmp 3) rfl rfl S3.out rfl) ?_) | (refine st_yes (v := .bool false) (by rfl) rfl (ex_neX (c := x) (x := .tmp 105) (y := .tmp 106) rfl rfl rfl) ?_))
          clear e0 e00 e1 e2
          refine wp_region_held_drew (S := fun W => Bk 27 W g1 x.cells ∧ Bk 27 W g2 x.cells) (by kernel_rfl) ⟨XS1.out.below (Below.refl _ _).drew, XS2.out.below (Below.refl _ _).drew⟩ (fun hS => ?_)
          have D := Lib.hid (Two.put (Two.call ⟨S3.out, S4.out, HB.out⟩ (Below.refl _ w8).drew) x x)
          have S3 := Lib.hid (S3.out.below (Below.refl _ w8).drew)
          have S4 := Lib.hid (S4.out.below (Below.refl _ w8).drew)
          clear HB XS1 XS2
          generalize w8.drew = X0 at *
          refine H.tk (i := 0) (v := .agg x.cells) ?h0 hS ?_
          case h0 => exact (fun w hw => run_loadK shX (x := .tmp 6) rfl rfl hw.1 rfl)
          try simp only [Act.put, List.setIfInBounds_toArray, List.set_cons_zero, List.set_cons_succ]
          refine H.tk (i := 1) (v := .agg x.cells) ?h1 hS ?_
          case h1 => exact (fun w hw => run_loadK shX (x := .tmp 9) rfl rfl hw.2 rfl)
          try simp only [Act.put, List.setIfInBounds_toArray, List.set_cons_zero, List.set_cons_succ]
          have hS' := (show Bk 27 (X0.setRow (w.heap.size) x.cells) g1 x.cells ∧ Bk 27 (X0.setRow (w.heap.size) x.cells) g2 x.cells from ⟨hS.1.row (by omega) _, hS.2.row (by omega) _⟩)
          refine Hx.H.storeRow (i := 2) (by simp only [List.getElem?_toArray, List.getElem?_cons_succ, List.getElem?_cons_zero]; rfl) (by kernel_rfl) rfl rfl (by kernel_rfl) (w.heap.size) x.cells rfl rfl 27 x.cells S3.out infoX rfl (oneX x) hS' ?_
          clear hS
          have hS := hS'
          clear hS'
          try simp only [Act.put, List.setIfInBounds_toArray, List.set_cons_zero, List.set_cons_succ]
          have hS' := (show Bk 27 ((X0.setRow w.heap.size x.cells).setRow (w.heap.size + 1) x.cells) g1 x.cells ∧ Bk 27 ((X0.setRow w.heap.size x.cells).setRow (w.heap.size + 1) x.cells) g2 x.cells from ⟨hS.1.row (by omega) _, hS.2.row (by omega) _⟩)
          refine Hx.H.storeRow (i := 3) (by simp only [List.getElem?_toArray, List.getElem?_cons_succ, List.getElem?_cons_zero]; rfl) (by kernel_rfl) rfl rfl (by kernel_rfl) (w.heap.size + 1) x.cells rfl rfl 27 x.cells (S4.out.row (by omega) _) infoX rfl (oneX x) hS' ?_
          clear hS
          have hS := hS'
          clear hS'
          try simp only [Act.put, List.setIfInBounds_toArray, List.set_cons_zero, List.set_cons_succ]
          refine wpAnyH_done (by kernel_rfl) ?_ _
          generalize (X0.setRow w.heap.size x.cells).setRow (w.heap.size + 1) x.cells = X9 at *
          go_wp2_with fail
          go_roundw
          case rel => exact ⟨k + 1, x, hlt, by go_num, HX, D⟩
          case measure => simp [intOf]; omega
        subst he
        rcases HG.out.told with hml | ⟨m, hml, hou, _⟩
        · simp only [] at hml
          obtain rfl : l1 = [] := by have := HP1.out; (try simp only [] at this); rw [hml] at this; exact this.at_nil
          clear HG HS HP1 HP2 hml
          dsimp only [List.length_nil] at *
          go_wp2_with (first | (refine wpList_loadX (b := g1) (m := x) rfl _ rfl rfl XS1.out ?_) | (refine wpList_loadX (b := g2) (m := x) rfl _ rfl rfl XS2.out ?_) | (refine st_yes (v := .bool false) (by rfl) rfl (ex_neX (c := x) (x := .tmp 65) (y := .tmp 66) rfl rfl rfl) ?_))
          refine (PS.out _ HM1.out HM2.out).mono ?_
          rintro r w7 ⟨rfl, hb⟩
          have S3 := Lib.hid (S3.out.below hb)
          have S4 := Lib.hid (S4.out.below hb)
          have XS1 := Lib.hid (XS1.out.below hb)
          have XS2 := Lib.hid (XS2.out.below hb)
          have HB := Lib.hid (bcall HB.out hb)
          clear hb PS
          go_wp2_with (first | (refine st_yes (v := .agg x.cells) (by rfl) rfl (run_loadK shX (x := .tmp 6) rfl rfl XS1.out rfl) ?_))
          refine (PO.out _).mono ?_
          rintro r w8 ⟨rfl, hb⟩
          have S3 := Lib.hid (S3.out.below hb)
          have S4 := Lib.hid (S4.out.below hb)
          have XS1 := Lib.hid (XS1.out.below hb)
          have XS2 := Lib.hid (XS2.out.below hb)
          have HB := Lib.hid (bcall HB.out hb)
          clear hb PO
          go_upto_region 12 with fail
          clear e0 e00
          refine wp_region_held_drew (S := fun W => Bk 27 W g1 x.cells ∧ Bk 27 W g2 x.cells) (by kernel_rfl) ⟨XS1.out.below (Below.refl _ _).drew, XS2.out.below (Below.refl _ _).drew⟩ (fun hS => ?_)
          have D := Lib.hid (Two.put (Two.call ⟨S3.out, S4.out, HB.out⟩ (Below.refl _ w8).drew) x x)
          have S3 := Lib.hid (S3.out.below (Below.refl _ w8).drew)
          have S4 := Lib.hid (S4.out.below (Below.refl _ w8).drew)
          clear HB XS1 XS2
          generalize w8.drew = X0 at *
          refine H.tk (i := 0) (v := .agg x.cells) ?h0 hS ?_
          case h0 => exact (fun w hw => run_loadK shX (x := .tmp 6) rfl rfl hw.1 rfl)
          try simp only [Act.put, List.setIfInBounds_toArray, List.set_cons_zero, List.set_cons_succ]
          refine H.tk (i := 1) (v := .agg x.cells) ?h1 hS ?_
          case h1 => exact (fun w hw => run_loadK shX (x := .tmp 9) rfl rfl hw.2 rfl)
          try simp only [Act.put, List.setIfInBounds_toArray, List.set_cons_zero, List.set_cons_succ]
          have hS' := (show Bk 27 (X0.setRow (w.heap.size) x.cells) g1 x.cells ∧ Bk 27 (X0.setRow (w.heap.size) x.cells) g2 x.cells from ⟨hS.1.row (by omega) _, hS.2.row (by omega) _⟩)
          refine Hx.H.storeRow (i := 2) (by simp only [List.getElem?_toArray, List.getElem?_cons_succ, List.getElem?_cons_zero]; rfl) (by kernel_rfl) rfl rfl (by kernel_rfl) (w.heap.size) x.cells rfl rfl 27 c.cells S3.out infoX rfl (oneX x) hS' ?_
          clear hS
          have hS := hS'
          clear hS'
          try simp only [Act.put, List.setIfInBounds_toArray, List.set_cons_zero, List.set_cons_succ]
          have hS' := (show Bk 27 ((X0.setRow w.heap.size x.cells).setRow (w.heap.size + 1) x.cells) g1 x.cells ∧ Bk 27 ((X0.setRow w.heap.size x.cells).setRow (w.heap.size + 1) x.cells) g2 x.cells from ⟨hS.1.row (by omega) _, hS.2.row (by omega) _⟩)
          refine Hx.H.storeRow (i := 3) (by simp only [List.getElem?_toArray, List.getElem?_cons_succ, List.getElem?_cons_zero]; rfl) (by kernel_rfl) rfl rfl (by kernel_rfl) (w.heap.size + 1) x.cells rfl rfl 27 c.cells (S4.out.row (by omega) _) infoX rfl (oneX x) hS' ?_
          clear hS
          have hS := hS'
          clear hS'
          try simp only [Act.put, List.setIfInBounds_toArray, List.set_cons_zero, List.set_cons_succ]
          refine wpAnyH_done (by kernel_rfl) ?_ _
          generalize (X0.setRow w.heap.size x.cells).setRow (w.heap.size + 1) x.cells = X9 at *
          go_wp2_with fail
          go_roundw
          case rel => exact ⟨k + 1, x, hlt, by go_num, HX, D⟩
          case measure => simp [intOf]; omega
        try simp only [] at hml
        obtain ⟨nm, rfl, hn⟩ : ∃ nm, l1 = [nm] ∧ Pl nm m := by have := HP1.out; (try simp only [] at this); rw [hml] at this; exact this.at_one
        have hou := okU_pl hn hou
        obtain ⟨qq, rfl, ho⟩ := one_row HM1.out
        have hI : nm.ll.length ≤ 1048576 ∧ nm.sl.length ≤ 1048576 := (HP1.out.short HS.out) nm (by simp)
        have hbd : ∀ x ∈ nm.sl, x.1.size ≤ 1099511627776 := by
          rw [show nm.sl = m.sl by rw [show nm = _ from hn]]
          exact (HS.out m (by rw [hml]; simp)).2.2.2.2
        have PR := Lib.hid (fun V (h : One V qq nm) (y : Tab V) => right_any nm V (h.in hI.1 hI.2) hbd (pfx_short hou) y)
        rw [hou] at PR
        have HO := Lib.hid ho
        clear HG HS HP1 HP2 hml hn hou ho hI hbd
        dsimp only [List.length_cons, List.length_nil] at *
        go_wp2_with (first | (refine wpList_loadX (b := g1) (m := x) rfl _ rfl rfl XS1.out ?_) | (refine wpList_loadX (b := g2) (m := x) rfl _ rfl rfl XS2.out ?_) | (refine st_yes (v := .bool false) (by rfl) rfl (ex_neX (c := x) (x := .tmp 65) (y := .tmp 66) rfl rfl rfl) ?_))
        refine (PS.out _ HM1.out HM2.out).mono ?_
        rintro r w7 ⟨rfl, hb⟩
        have S3 := Lib.hid (S3.out.below hb)
        have S4 := Lib.hid (S4.out.below hb)
        have XS1 := Lib.hid (XS1.out.below hb)
        have XS2 := Lib.hid (XS2.out.below hb)
        have HO := Lib.hid (HO.out.below hb)
        have HB := Lib.hid (bcall HB.out hb)
        clear hb PS
        go_wp2_with (first | (refine st_yes (v := .agg x.cells) (by rfl) rfl (run_loadK shX (x := .tmp 6) rfl rfl XS1.out rfl) ?_))
        refine (PO.out _).mono ?_
        rintro r w8 ⟨rfl, hb⟩
        have S3 := Lib.hid (S3.out.below hb)
        have S4 := Lib.hid (S4.out.below hb)
        have XS1 := Lib.hid (XS1.out.below hb)
        have XS2 := Lib.hid (XS2.out.below hb)
        have HO := Lib.hid (HO.out.below hb)
        have HB := Lib.hid (bcall HB.out hb)
        clear hb PO
        go_wp2_with (first | (refine st_yes (v := .agg nm.cells) (by rfl) rfl (run_loadO (x := .tmp 95) rfl rfl HO.out) ?_))
        refine (PR.out _ HO.out (HT.out.below HB.out)).mono ?_
        rintro r w9 ⟨rfl, hb⟩
        have S3 := Lib.hid (S3.out.below hb)
        have S4 := Lib.hid (S4.out.below hb)
        have XS1 := Lib.hid (XS1.out.below hb)
        have XS2 := Lib.hid (XS2.out.below hb)
        have HB := Lib.hid (bcall HB.out hb)
        clear hb PR HO
        go_upto_region 12 with fail
        clear e0 e00
        refine wp_region_held_drew (S := fun W => Bk 27 W g1 x.cells ∧ Bk 27 W g2 x.cells) (by kernel_rfl) ⟨XS1.out.below (Below.refl _ _).drew, XS2.out.below (Below.refl _ _).drew⟩ (fun hS => ?_)
        have D := Lib.hid (Two.put (Two.call ⟨S3.out, S4.out, HB.out⟩ (Below.refl _ w9).drew) x x)
        have S3 := Lib.hid (S3.out.below (Below.refl _ w9).drew)
        have S4 := Lib.hid (S4.out.below (Below.refl _ w9).drew)
        clear HB XS1 XS2
        generalize w9.drew = X0 at *
        refine H.tk (i := 0) (v := .agg x.cells) ?h0 hS ?_
        case h0 => exact (fun w hw => run_loadK shX (x := .tmp 6) rfl rfl hw.1 rfl)
        try simp only [Act.put, List.setIfInBounds_toArray, List.set_cons_zero, List.set_cons_succ]
        refine H.tk (i := 1) (v := .agg x.cells) ?h1 hS ?_
        case h1 => exact (fun w hw => run_loadK shX (x := .tmp 9) rfl rfl hw.2 rfl)
        try simp only [Act.put, List.setIfInBounds_toArray, List.set_cons_zero, List.set_cons_succ]
        have hS' := (show Bk 27 (X0.setRow (w.heap.size) x.cells) g1 x.cells ∧ Bk 27 (X0.setRow (w.heap.size) x.cells) g2 x.cells from ⟨hS.1.row (by omega) _, hS.2.row (by omega) _⟩)
        refine Hx.H.storeRow (i := 2) (by simp only [List.getElem?_toArray, List.getElem?_cons_succ, List.getElem?_cons_zero]; rfl) (by kernel_rfl) rfl rfl (by kernel_rfl) (w.heap.size) x.cells rfl rfl 27 c.cells S3.out infoX rfl (oneX x) hS' ?_
        clear hS
        have hS := hS'
        clear hS'
        try simp only [Act.put, List.setIfInBounds_toArray, List.set_cons_zero, List.set_cons_succ]
        have hS' := (show Bk 27 ((X0.setRow w.heap.size x.cells).setRow (w.heap.size + 1) x.cells) g1 x.cells ∧ Bk 27 ((X0.setRow w.heap.size x.cells).setRow (w.heap.size + 1) x.cells) g2 x.cells from ⟨hS.1.row (by omega) _, hS.2.row (by omega) _⟩)
        refine Hx.H.storeRow (i := 3) (by simp only [List.getElem?_toArray, List.getElem?_cons_succ, List.getElem?_cons_zero]; rfl) (by kernel_rfl) rfl rfl (by kernel_rfl) (w.heap.size + 1) x.cells rfl rfl 27 c.cells (S4.out.row (by omega) _) infoX rfl (oneX x) hS' ?_
        clear hS
        have hS := hS'
        clear hS'
        try simp only [Act.put, List.setIfInBounds_toArray, List.set_cons_zero, List.set_cons_succ]
        refine wpAnyH_done (by kernel_rfl) ?_ _
        generalize (X0.setRow w.heap.size x.cells).setRow (w.heap.size + 1) x.cells = X9 at *
        go_wp2_with fail
        go_roundw
        case rel => exact ⟨k + 1, x, hlt, by go_num, HX, D⟩
        case measure => simp [intOf]; omega

theorem own : ownKnob Tryd.prog.godebug = none := by kernel_rfl

set_option maxRecDepth 100000 in
theorem lifted (os : Os) (started : os.Started) (H : Type) (enc : TypeId × Value → H) :
    ReturnsInHanded {} Tryd.checked os 3 .any (fun w args => (Rows.ctxFoldsSpec.pre enc Tryd.prog Tryd.f3 Rows.ctxFoldsRow.domain false w args ∧ laidMetH Tryd.prog Rows.ctxFoldsRow.laid w) ∧ sizedMet enc Tryd.prog Tryd.f3 (OpenSpec.ofChange Rows.ctxFoldsSpec) false w args)
      (Rows.ctxFoldsSpec.post enc Tryd.prog Tryd.f3 false true false false) := by
  refine returnsInHanded_of_change_and (C := Tryd.checked) (X := fun w _ => laidMetH Tryd.prog Rows.ctxFoldsRow.laid w) (fun _ _ _ hh h => h.of_heap hh) own started (by kernel_rfl) Tryd.func3
    (ChangeSpec.witness_shaped (enc := enc) (C := Tryd.checked) (os := os) (X := fun w _ => laidMetH Tryd.prog Rows.ctxFoldsRow.laid w) false (World.laidAll Tryd.prog os Rows.ctxFoldsRow.laid) #[.slice none 0 0] 8 (World.laidAll_os _ _ _)
      (World.shaped_of_ZipB (by kernel_rfl) (by kernel_rfl)) (by kernel_rfl) (by kernel_rfl) (by kernel_rfl)
      (by rw [MakeChecks.laidMetH_plain _ _ _ (by kernel_rfl)]; exact laidMet_laidAll _ (by kernel_rfl) (by kernel_rfl))) ?_
  intro W base args ds gs before hval0 hW _ _ hL0 _
  have hMet := of_laid hL0
  have hval : ∀ (j : Nat) t v, Tryd.f3.params[j]? = some t → args[j]? = some v → Value.okWide Tryd.prog W .any base t v := hval0
  have hW' := hW
  have hlt := fun x hx => hW'.lt x hx
  obtain ⟨p, q, hA0, hV, rfl, hfz, hnd⟩ := hW
  have hA : DataW.TrodAll enc Tryd.prog W 0 (fun _ => true) true Tryd.f3.params.toList args.toList ds p := hA0
  rw [Tryd.params3] at hA hval
  obtain ⟨v0, vs0, d0, ds0, p0, q0, hargs, rfl, rfl, h0, r0⟩ := trodAll_cons hA
  obtain ⟨rfl, rfl, rfl⟩ := trodAll_nil r0
  obtain rfl : args = #[v0] := by cases args; simp_all
  obtain ⟨rfl, rfl⟩ := trodVars_none hV
  obtain ⟨a, l, k, rfl, hl, hn, _⟩ := by_tlvs (hval 0 22 v0 rfl rfl) h0
  clear hA0 hval0
  simp only [List.append_nil] at hW' hlt
  refine (walk a l k W hl hn hMet).mono fun e W' ⟨he, hg⟩ => ?_
  subst he
  exact ⟨_, rfl, _, _, _, [], _, [], hW', trodAll_mk1 (shut_bool Tryd.underlying4 _), (trodAll_cons_mk (again (by kernel_rfl) (of_decide_eq_true (by kernel_rfl)) h0 hg fun x hx => hlt x (by first | exact absurd hx (by simp) | simp [hx])) trodAll_mk0), rfl, hg.frame _, fun h => by cases h⟩

theorem over : Rows.CtxFoldsSaid :=
  OpenClaim.holds_of_wide 3 Tryd.f3 rfl rfl rfl rfl rfl rfl rfl ⟨rfl, rfl, rfl, rfl, rfl⟩ rfl rfl rfl rfl rfl (by kernel_rfl) Tryd.func3 (by kernel_rfl)
    (of_decide_eq_true (by kernel_rfl)) (by unfold Func.isWrapper; first | (rw [if_pos (by decide +kernel)]; kernel_rfl) | (rw [if_neg (by decide +kernel)]; exact ⟨rfl, rfl⟩))
    (fun os started H enc _ => lifted os started H enc)

theorem proved : Rows.CtxFoldsCardSaid :=
  Claim7.holds_tied_plain_at .later [] _ true _ _
    over (fun _ h => by cases h) (by kernel_rfl) (fun _ h => by cases h) ctxFolds_row_tie rfl ⟨rfl, rfl⟩ (by kernel_rfl) rfl
    (fun f fn hf hfn => by
      obtain rfl : f = 3 := Option.some.inj ((show Tryd.prog.funcNamed "roadbook/roadbooklaw22.CtxFolds" = some 3 by kernel_rfl).symm.trans hf) |>.symm
      obtain rfl : fn = Tryd.f3 := (Option.some.inj (Tryd.func3.symm.trans hfn)).symm
      exact ⟨by kernel_rfl, fun j t ht => by
        rw [Tryd.params3] at ht
        have hm : t ∈ [22] := by simpa using Array.mem_of_getElem? ht
        have hall : ([22].all fun u => !Tryd.prog.wantsStandIn u) = true := by kernel_rfl
        exact (show Tryd.prog.wantsStandIn t = false by simpa using List.all_eq_true.1 hall t hm)⟩)
    (by kernel_rfl)
#print axioms proved
end Go.Proofs.YteecialdkfaejaaDoor.ctxFolds
