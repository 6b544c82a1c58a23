/-
  The statement CtxBytes, of any thing known, any bytes and any number. Condition: the listed variables have what the program's text lays them with (the tied card).
-/
import Derived.Test.YteecialdkfaejaaDoorP9
import Derived.Test.YteecialdkfaejaaDoorCards
import Derived.Test.YteecialdkfaejaaDoorTie
import Derived.Lay
import Derived.SevenTiedAt
import Derived.Stop.Joined
namespace Go.Proofs.YteecialdkfaejaaDoor.ctxBytes
open Go.ChangeShapes Go.WideShapes Go.ChangeAt Go.RowKit
open Go.ChangeMaps (open_string shut_string)
open Go.Proofs.YteecialdkfaejaaDoor.Ms
open Go.Proofs.YteecialdkfaejaaDoor.Box
open Go.Proofs.YteecialdkfaejaaDoor.All
open Go.Proofs.YteecialdkfaejaaDoor.J1
open Go.Proofs.YteecialdkfaejaaDoor.An
open Go.Proofs.YteecialdkfaejaaDoor.Tc
open Go.Proofs.YteecialdkfaejaaDoor.K1
open Go.Proofs.YteecialdkfaejaaDoor.Kb
open Go.Proofs.YteecialdkfaejaaDoor.K2
open Go.Proofs.YteecialdkfaejaaDoor.K9
open Go.Proofs.YteecialdkfaejaaDoor.Hs
open Go.Proofs.YteecialdkfaejaaDoor.Open
set_option linter.unusedVariables false

open Go.Proofs.YteecialdkfaejaaDoor.Nu (text_eq ext_list)
open Go.Proofs.YteecialdkfaejaaDoor.J2 (nil_eq nil_em)
open Go.Proofs.YteecialdkfaejaaDoor.Tl (cellsT TRow)
open Go.Proofs.YteecialdkfaejaaDoor.Or (st_yes)
open Go.Proofs.YteecialdkfaejaaDoor.Hx (ex_built)
open Go.Proofs.YteecialdkfaejaaDoor.Hy (H.one H.two wp_valW)
open Go.Proofs.YteecialdkfaejaaDoor.Bk (Bk wpList_builtK run_loadK alloc_size)
open Go.Proofs.YteecialdkfaejaaDoor.F1 (bt bt_nn bt_lt)
open Go.Proofs.YteecialdkfaejaaDoor.F2 (idx sl_m sl_l)
open Go.Proofs.YteecialdkfaejaaDoor.K8 (sl_h)
open Go.Proofs.YteecialdkfaejaaDoor.K6 (infoX)
open Go.Proofs.YteecialdkfaejaaDoor.K4 (ex_indexAt indexAt4)
open Go.Proofs.YteecialdkfaejaaDoor.K7 (pf_cellX)
open Go.Proofs.YteecialdkfaejaaDoor.Hx (conv8)
open Go.Proofs.YteecialdkfaejaaDoor.Pre (leastN)
/-- What the law asks of an Update that is told, ahead of its second. -/
def goodB (e : Int) (pp : ByteArray) (kn : Nat) (hv : Int) (d : ByteArray) : Bool :=
  decide (e = 0) && (!decide (pp.size = 0) && (decide ((kn : Int) ≤ hv) && (decide (kn ≤ pp.size) && (decide (10 + kn ≤ d.size) && ((d.extract 10 (10 + kn)).toList == (pp.extract 0 kn).toList)))))
set_option maxRecDepth 100000 in
theorem conv_back (n : Nat) (h1 : n < 256) (W : World) : (convert 3 5 (.int .i64 n)).run Tryd.prog W = .ok (.int .u8 n) W := by
  rw [run_convert_int W 3 5 .i64 n (by rw [Tryd.underlying3]; rfl) Tryd.underlying5]
  have : (Tryd.prog.intKind 5).wrap n = n := by
    rw [show Tryd.prog.intKind 5 = .u8 by kernel_rfl]
    exact IntWalk.u8_in _ (by omega)
  rw [this, show Tryd.prog.intKind 5 = .u8 by kernel_rfl]
theorem build_b (c : Int) (w : World) : (Instr.buildSlice 42 1 #[(0, .int .u8 c)]).run Tryd.prog w = .ok (.slice (some ⟨w.heap.size, 0, none⟩) 1 1) (w.alloc (.cells #[.int .u8 c] 5)) := by
  kernel_rfl
theorem ex_bsO {o : Oper} {ρ : Operand → Value} {x : Operand} {c : Int} {w : World} (ho : o.op = .buildSlice 42 1 #[(0, x)]) (hx : ρ x = .int .u8 c) :
    (execOp ρ o).run Tryd.prog w = .ok (.value (.slice (some ⟨w.heap.size, 0, none⟩) 1 1)) (w.alloc (.cells #[.int .u8 c] 5)) := by
  have e : ((#[(0, x)] : Array (Nat × Operand)).map fun (i, x) => (i, ρ x)) = #[(0, .int .u8 c)] := by simp [hx]
  unfold execOp
  simp only [ho, Sem.run_bind, e, build_b, Result.andThen_ok, Sem.run_pure]
theorem ex_conv {o : Oper} {ρ : Operand → Value} {x : Operand} {v u : Value} {w : World} (ho : o.op = .convert 42 9 x) (hx : ρ x = v) (h : (convert 42 9 v).run Tryd.prog w = .ok u w) :
    (execOp ρ o).run Tryd.prog w = .ok (.value u) w := by
  unfold execOp
  simp only [ho, hx, Sem.run_bind, h, Result.andThen_ok, Sem.run_pure]
theorem conv_row1 (c : UInt8) (w : World) (g : Nat) (hB : Bk.Bk 5 w g #[.int .u8 (c.toNat : Int)]) : (convert 42 9 (.slice (some ⟨g, 0, none⟩) 1 1)).run Tryd.prog w = .ok (.string ⟨#[c]⟩) w := by
  refine run_convert_bytes_back _ 42 9 5 ⟨g, 0, none⟩ 1 [c] Tryd.underlying42 Tryd.underlying5 Tryd.underlying9 fun j hj => ?_
  rw [Sx.add_at, Nat.zero_add]
  match j, hj with
  | 0, _ => exact hB.cell 0 _ rfl
theorem conv_n (k : Nat) (hk : k ≤ 16) (w : World) (g : Nat) (hB : Bk.Bk 5 w g #[.int .u8 (k : Int)]) : (convert 42 9 (.slice (some ⟨g, 0, none⟩) 1 1)).run Tryd.prog w = .ok (.string ⟨#[UInt8.ofNat k]⟩) w :=
  conv_row1 (UInt8.ofNat k) w g (by rw [show ((UInt8.ofNat k).toNat : Int) = (k : Int) by rw [UInt8.toNat_ofNat']; omega]; exact hB)

set_option maxHeartbeats 51200000 in
set_option maxRecDepth 100000 in
theorem walk (c : Kx) (d : ByteArray) (n : Int) (w : World) (hf : Fit c) (hm : d.size ≤ maxLen) (hn : (Lit.int .u8 n).wf = true) (ht : Tab w) :
    Calls Tryd.prog 4 #[.agg c.cells, .string d, .int .u8 n] w fun r w' => r = .returned (.bool true) ∧ Below w.heap.size w w' := by
  unfold maxLen at hm
  have hn8 : 0 ≤ n ∧ n ≤ 255 := by
    have h : IntKind.u8.min ≤ n ∧ n ≤ IntKind.u8.max := by simpa [Lit.wf] using hn
    exact h
  obtain ⟨kn, hkn⟩ : ∃ k : Nat, n % 17 = k := ⟨(n % 17).toNat, by omega⟩
  have hk16 : kn ≤ 16 := by omega
  have htm : n.tmod 17 = (kn : Int) := by rw [Int.tmod_eq_emod_of_nonneg hn8.1]; exact hkn
  have PO := Lib.hid (fun V => Ko.rok_any c V)
  have S0 := Lib.hid (Bk.Bk.new 27 w c.cells)
  have HB := Lib.hid (balloc (Below.refl _ w) (.cells c.cells 27))
  have HT := Lib.hid (ht.below HB.out)
  have h1 := ht.pos
  clear ht hf hn hkn
  by_cases hc : okC c = true
  rotate_left
  · have hc : okC c = false := by simpa using hc
    rw [hc] at PO
    clear hc htm
    go_enter Tryd.func4, Tryd.ntmps4
    go_upto_region 1 with fail
    change Code.wp _ _ _ _ (w.alloc (.cells c.cells 27))
    generalize w.alloc (.cells c.cells 27) = V at *
    go_wp2_with (first | (refine wpList_loadX (b := w.heap.size) (m := c) rfl _ rfl rfl S0.out ?_))
    refine (PO.out _).mono ?_
    rintro r w1 ⟨rfl, hb⟩
    have S0 := Lib.hid (S0.out.below hb)
    have HT := Lib.hid (HT.out.below hb)
    have HB := Lib.hid (bcall HB.out hb)
    clear hb PO
    go_wp2_with fail
    refine (awake_any _ HT.out).mono ?_
    rintro r w2 ⟨rfl, hb⟩
    have HB := Lib.hid (bcall HB.out hb)
    clear hb
    go_wp2
    go_ret
    exact ⟨rfl, HB.out⟩
  rw [hc] at PO
  have hid8 := ((okc_iff c).1 hc).id
  have hi : ¬ 100 < (c.id.size : Int) := by omega
  clear hid8
  go_enter Tryd.func4, Tryd.ntmps4
  go_upto_region 1 with fail
  change Code.wp _ _ _ _ (w.alloc (.cells c.cells 27))
  generalize w.alloc (.cells c.cells 27) = V at *
  go_wp2_with (first | (refine wpList_loadX (b := w.heap.size) (m := c) rfl _ rfl rfl S0.out ?_))
  refine (PO.out _).mono ?_
  rintro r w1 ⟨rfl, hb⟩
  have S0 := Lib.hid (S0.out.below hb)
  have HT := Lib.hid (HT.out.below hb)
  have HB := Lib.hid (bcall HB.out hb)
  clear hb PO
  have s6 := S0.out.cell 6 (.string c.id) rfl
  by_cases h255 : 255 < d.size
  · have h255' : 255 < (d.size : Int) := by omega
    clear hc htm
    go_wp2_with fail
    refine (awake_any _ HT.out).mono ?_
    rintro r w2 ⟨rfl, hb⟩
    have HB := Lib.hid (bcall HB.out hb)
    clear hb
    go_wp2
    go_ret
    exact ⟨rfl, HB.out⟩
  have h255' : ¬ 255 < (d.size : Int) := by omega
  by_cases h10 : d.size < 10
  · have h10' : (d.size : Int) < 10 := by omega
    clear hc htm
    go_wp2_with fail
    refine (awake_any _ HT.out).mono ?_
    rintro r w2 ⟨rfl, hb⟩
    have HB := Lib.hid (bcall HB.out hb)
    clear hb
    go_wp2
    go_ret
    exact ⟨rfl, HB.out⟩
  have h10' : ¬ (d.size : Int) < 10 := by omega
  have i0 := idx d 0 0 rfl (by omega)
  have i3 := idx d 3 3 rfl (by omega)
  by_cases g1 : bt d 0 < 1
  · clear hc htm
    go_wp2_with fail
    refine (awake_any _ HT.out).mono ?_
    rintro r w2 ⟨rfl, hb⟩
    have HB := Lib.hid (bcall HB.out hb)
    clear hb
    go_wp2
    go_ret
    exact ⟨rfl, HB.out⟩
  by_cases g3 : 3 < bt d 0
  · clear hc htm
    go_wp2_with fail
    refine (awake_any _ HT.out).mono ?_
    rintro r w2 ⟨rfl, hb⟩
    have HB := Lib.hid (bcall HB.out hb)
    clear hb
    go_wp2
    go_ret
    exact ⟨rfl, HB.out⟩
  by_cases hz : ¬ bt d 3 = 0
  · have hz' : (bt d 3 == 0) = false := by simpa using hz
    have hz2 : (bt d 3 != 0) = true := by rw [bne, hz']; rfl
    clear hc htm
    go_wp2_with fail
    refine (awake_any _ HT.out).mono ?_
    rintro r w2 ⟨rfl, hb⟩
    have HB := Lib.hid (bcall HB.out hb)
    clear hb
    go_wp2
    go_ret
    exact ⟨rfl, HB.out⟩
  have hz : bt d 3 = 0 := by omega
  have i2 := idx d 2 2 rfl (by omega)
  obtain ⟨k, hk⟩ : ∃ k : Nat, bt d 0 = k := ⟨(bt d 0).toNat, by omega⟩
  have hk1 : 1 ≤ k := by omega
  have hk3 : k ≤ 3 := by omega
  have hk4 : k < 4 := by omega
  have v0 := conv8 (k : Int) (by omega) (by omega)
  have v2 := conv8 (bt d 2) (bt_nn d 2) (bt_lt d 2)
  have vk := conv8 (kn : Int) (by omega) (by omega)
  have vb := conv_back kn (by omega)
  have ho := (okc_iff c).1 hc
  have HOM := Lib.hid (fun (d' : ByteArray) (he : (out8 c d).2.2 = 0) (hp : ¬ (c.pf k).size = 0) (h1 : kn ≤ countN k (bt d 2)) (h2 : 10 + kn ≤ d.size) (heq : (d.data.toList.drop 10).take kn = ((c.pf k).data.toList.drop (baseN k)).take kn) (hl : d'.data.toList = d.data.toList.take 3 ++ (UInt8.ofNat kn :: ((d.data.toList.drop 4).take 6 ++ d.data.toList.drop (10 + kn)))) =>
    om_same (d' := d') (k := kn) hc (by omega) (by omega) hz he (by rw [hk]; exact hp) (by rw [hk]; exact h1) h2 (by rw [hk]; exact heq) hl)
  have P1 := Lib.hid (fun V (y : Tab V) => show Calls Tryd.prog 7 #[.agg c.cells, .agg (cellsT (0, (d, 8)))] V (AnsC (out8 c d) V) from K6.step_any c 0 8 d V (.inr (.inr rfl)) hc (by omega) y)
  have P2 := Lib.hid (fun (d' : ByteArray) (hs : d'.size ≤ 100000) V (y : Tab V) => show Calls Tryd.prog 7 #[.agg c.cells, .agg (cellsT (0, (d', 8)))] V (AnsC (out8 c d') V) from K6.step_any c 0 8 d' V (.inr (.inr rfl)) hc hs y)
  have hpz : (c.pf k).size = 0 ∨ (c.pf k).size = if (k : Int) = 1 then 4 else 16 := by
    rcases ho.pf (show 0 ≤ (k : Int) by omega) (show (k : Int) ≤ 3 by omega) with h | ⟨h, _⟩
    · exact .inl h
    · have := adr_len h (by omega) (by omega)
      exact .inr this
  have HSH := Lib.hid (out_short 8 d hc)
  have HSH := Lib.hid (show ∀ m ∈ (out8 c d).2.1, m.la = none ∧ m.ll = [] ∧ m.lc = 0 ∧ m.sl.length ≤ 100 ∧ ∀ x ∈ m.sl, x.1.size ≤ 1099511627776 from HSH.out)
  have HTL := Lib.hid (out_good 8 d hc).told
  have HTL := Lib.hid (show (out8 c d).2.1 = [] ∨ ∃ m, (out8 c d).2.1 = [m] ∧ okU m = true ∧ m.la = none ∧ m.ll = [] ∧ m.lc = 0 from HTL.out)
  rw [hk] at i0 g1 g3
  obtain ⟨q, hq⟩ : ∃ q, out8 c d = q := ⟨_, rfl⟩
  rw [hq] at HOM P1 HSH HTL
  clear hq hc ho hn8
  have p0 := pf_cellX S0.out hk4
  obtain ⟨pf, hpf⟩ : ∃ x, c.pf k = x := ⟨_, rfl⟩
  have HPC := Lib.hid (fun W (h : Bk 27 W w.heap.size c.cells) => (show W.cell? ⟨w.heap.size, k, none⟩ = some (.string pf) by rw [← hpf]; exact pf_cellX h hk4))
  rw [hpf] at p0 hpz HOM
  clear hpf
  go_upto_region 5 with (first | (refine st_yes (v := .pointer (some ⟨w.heap.size, k, none⟩)) (by rfl) rfl (ex_indexAt rfl rfl rfl (indexAt4 w.heap.size k hk4 _)) ?_))
  clear i0 i3 s6 p0
  have n1 := nil_eq pf
  have n2 := nil_em pf
  go_cut [64] (fun m wx => m = .bool (decide (k = 3) && !decide (pf.size = 0)) ∧ Below w1.heap.size w1 wx)
  case first =>
    as_aux_lemma =>
      by_cases k3 : k = 3
      rotate_left
      · have e1 : ((k : Int) == 3) = false := by simp; omega
        have HD := Lib.hid (show (decide (k = 3) && !decide (pf.size = 0)) = false by rw [decide_eq_false k3]; rfl)
        clear n1 n2 k3
        go_wp2_with fail
        go_meet
        exact ⟨by rw [HD.out], Below.refl _ _⟩
      subst k3
      by_cases hz : pf.size = 0
      · have HD := Lib.hid (show (decide (3 = 3) && !decide (pf.size = 0)) = false by rw [decide_eq_true hz]; rfl)
        rw [decide_eq_true hz] at n1 n2
        go_wp2_with fail
        go_meet
        exact ⟨by rw [HD.out], Below.refl _ _⟩
      have HD := Lib.hid (show (decide (3 = 3) && !decide (pf.size = 0)) = true by rw [decide_eq_false hz]; rfl)
      rw [decide_eq_false hz] at n1 n2
      go_wp2_with fail
      go_meet
      exact ⟨by rw [HD.out], Below.refl _ _⟩
  case rest =>
    obtain ⟨rfl, hb⟩ := hcut
    have S0 := Lib.hid (S0.out.below hb)
    have HT := Lib.hid (HT.out.below hb)
    have HB := Lib.hid (bcall HB.out hb)
    clear hb n1 n2
    generalize wc = V0 at *
    go_upto_if 64 with fail
    go_cut [8] (fun m8 wx => (∃ pp : ByteArray, m8 = .string pp ∧ pp.data.toList = pf.data.toList.drop (baseN k)) ∧ Below V0.heap.size V0 wx)
    case first =>
      as_aux_lemma =>
        by_cases k3 : k = 3
        rotate_left
        · have hb0 : baseN k = 0 := by rcases (show k = 1 ∨ k = 2 by omega) with rfl | rfl <;> rfl
          rw [show (decide (k = 3) && !decide (pf.size = 0)) = false by rw [decide_eq_false k3]; rfl]
          clear k3
          go_wp2_with fail
          go_meet
          exact ⟨⟨pf, rfl, by rw [hb0]; rfl⟩, Below.refl _ _⟩
        subst k3
        by_cases hz : pf.size = 0
        · rw [show (decide (3 = 3) && !decide (pf.size = 0)) = false by rw [decide_eq_true hz]; rfl]
          have hnil : pf.data.toList = [] := List.length_eq_zero_iff.1 (by rw [size_list]; exact hz)
          go_wp2_with fail
          go_meet
          exact ⟨⟨pf, rfl, by rw [hnil]; rfl⟩, Below.refl _ _⟩
        rw [show (decide (3 = 3) && !decide (pf.size = 0)) = true by rw [decide_eq_false hz]; rfl]
        have s8 := sl_l pf 8 8 pf.size rfl (by rcases hpz with h | h; exact absurd h hz; rw [h]; decide) rfl
        have hdr : (pf.extract 8 pf.size).data.toList = pf.data.toList.drop 8 := by rw [ext_list, ← size_list, List.take_of_length_le (by simp)]
        go_wp2_with fail
        go_meet
        exact ⟨⟨_, rfl, hdr⟩, Below.refl _ _⟩
    case rest =>
      obtain ⟨⟨pp, rfl, hpp⟩, hb⟩ := hcut
      have S0 := Lib.hid (S0.out.below hb)
      have HT := Lib.hid (HT.out.below hb)
      have HB := Lib.hid (bcall HB.out hb)
      clear hb
      generalize wc = V1 at *
      have HPS := Lib.hid (show pp.size = pf.size - baseN k by rw [← size_list, hpp, List.length_drop, size_list])
      go_wp2_with (first | (refine wpList_loadX (b := w.heap.size) (m := c) rfl _ rfl rfl S0.out ?_) | (refine wpList_builtK rfl 29 _ rfl (cellsT (0, (d, 8))) (by kernel_rfl) ?_))
      refine (P1.out _ HT.out).mono ?_
      rintro e w4 ⟨qa1, qk1, l1, rfl, hp1, hm1, hb⟩
      have HT := Lib.hid (HT.out.below hb)
      have S0 := Lib.hid (S0.out.below hb)
      have HB := Lib.hid (bcall HB.out hb)
      clear hb
      go_upto_region 8 with (refine wpList_storeX (b := w4.heap.size) (m := Kx.zero) (m' := q.1) rfl _ _ rfl rfl rfl (Bk.Bk.new 27 w4 Kx.zero.cells) ?_)
      change Code.wp _ _ _ _ ((w4.alloc (.cells Kx.zero.cells 27)).setRow w4.heap.size (Kx.cells q.1))
      rw [World.setRow_alloc_new]
      have bel := balloc (Below.refl w4.heap.size w4) (.cells (Kx.cells q.1) 27)
      have HT := Lib.hid (HT.out.below bel)
      have S0 := Lib.hid (S0.out.below bel)
      have HB := Lib.hid (bcall HB.out bel)
      have XS1 := Lib.hid (Bk.Bk.new 27 w4 (Kx.cells q.1))
      have HM1 := Lib.hid (hm1.row.below bel)
      have HP1 := Lib.hid hp1
      clear bel hm1 hp1
      generalize w4.alloc (.cells (Kx.cells q.1) 27) = V1 at *
      generalize w4.heap.size = g1 at *
      clear P1
      have HHV := Lib.hid (rfl : (bt d 2 + 7) / 8 - (pf.size : Int) + (pp.size : Int) = (bt d 2 + 7) / 8 - (pf.size : Int) + (pp.size : Int))
      clear HHV
      have b20 := bt_nn d 2
      have b21 := bt_lt d 2
      have hpfz : pf.size ≤ 16 := by rcases hpz with h | h <;> rw [h] <;> (try split) <;> omega
      have HW3 := Lib.hid (show IntKind.i64.wrap (bt d 2 + 7) = bt d 2 + 7 from IntWalk.i64_in _ (by omega))
      have HW4 := Lib.hid (show IntKind.i64.wrap ((bt d 2 + 7).tdiv 8) = (bt d 2 + 7) / 8 by rw [Int.tdiv_eq_ediv_of_nonneg (by omega)]; exact IntWalk.i64_in _ (by omega))
      have HW10 := Lib.hid (show IntKind.i64.wrap ((bt d 2 + 7) / 8 - (pf.size : Int)) = (bt d 2 + 7) / 8 - (pf.size : Int) from IntWalk.i64_in _ (by omega))
      have HW13 := Lib.hid (show IntKind.i64.wrap ((bt d 2 + 7) / 8 - (pf.size : Int) + (pp.size : Int)) = (bt d 2 + 7) / 8 - (pf.size : Int) + (pp.size : Int) from IntWalk.i64_in _ (by have := HPS.out; omega))
      go_cut [12] (fun m12 wx => m12 = .int .i64 ((bt d 2 + 7) / 8 - (pf.size : Int) + (pp.size : Int)) ∧ Below V1.heap.size V1 wx)
      case first =>
        as_aux_lemma =>
          refine wp_region_held_drew (S := fun W => Below V1.heap.size V1 W) (by kernel_rfl) (Below.refl _ V1).drew (fun hS => ?_)
          generalize V1.drew = X0 at *
          refine H.tk (i := 0) (v := ?v0) ?h0 hS ?_
          case h0 => (intro w hw; go_simp; first | done | (with_reducible rfl))
          try simp only [Act.put, List.setIfInBounds_toArray, List.set_cons_zero, List.set_cons_succ]
          refine H.tk (i := 1) (v := .int .u8 (bt d 2)) ?h1 hS ?_
          case h1 => exact (fun w hw => by go_simp)
          try simp only [Act.put, List.setIfInBounds_toArray, List.set_cons_zero, List.set_cons_succ]
          refine H.tk (i := 2) (v := .int .i64 (bt d 2)) ?h2 hS ?_
          case h2 => exact (fun w hw => by go_simp)
          try simp only [Act.put, List.setIfInBounds_toArray, List.set_cons_zero, List.set_cons_succ]
          refine H.tk (i := 3) (v := .int .i64 (bt d 2 + 7)) ?h3 hS ?_
          case h3 => exact (fun w hw => by go_simp; rw [HW3.out])
          try simp only [Act.put, List.setIfInBounds_toArray, List.set_cons_zero, List.set_cons_succ]
          refine H.tk (i := 4) (v := .int .i64 ((bt d 2 + 7) / 8)) ?h4 hS ?_
          case h4 => exact (fun w hw => by go_simp; rw [HW4.out])
          try simp only [Act.put, List.setIfInBounds_toArray, List.set_cons_zero, List.set_cons_succ]
          refine H.tk (i := 5) (v := .int .i64 (k : Int)) ?h5 hS ?_
          case h5 => exact (fun w hw => by go_simp)
          try simp only [Act.put, List.setIfInBounds_toArray, List.set_cons_zero, List.set_cons_succ]
          refine H.tk (i := 6) (v := .pointer (some ⟨w.heap.size, 0, none⟩)) ?h6 hS ?_
          case h6 => exact (fun w hw => by go_simp)
          try simp only [Act.put, List.setIfInBounds_toArray, List.set_cons_zero, List.set_cons_succ]
          refine H.tk (i := 7) (v := .pointer (some ⟨w.heap.size, k, none⟩)) ?h7 hS ?_
          case h7 => exact (fun _ hw => ex_indexAt rfl rfl rfl (indexAt4 w.heap.size k hk4 _))
          try simp only [Act.put, List.setIfInBounds_toArray, List.set_cons_zero, List.set_cons_succ]
          refine H.tk (i := 8) (v := .string pf) ?h8 hS ?_
          case h8 => exact (fun _ hw => by have c := HPC.out _ (S0.out.below hw); go_simp)
          try simp only [Act.put, List.setIfInBounds_toArray, List.set_cons_zero, List.set_cons_succ]
          refine H.tk (i := 9) (v := .int .i64 (pf.size : Int)) ?h9 hS ?_
          case h9 => exact (fun w hw => by go_simp)
          try simp only [Act.put, List.setIfInBounds_toArray, List.set_cons_zero, List.set_cons_succ]
          refine H.tk (i := 10) (v := .int .i64 ((bt d 2 + 7) / 8 - (pf.size : Int))) ?h10 hS ?_
          case h10 => exact (fun w hw => by go_simp; rw [HW10.out])
          try simp only [Act.put, List.setIfInBounds_toArray, List.set_cons_zero, List.set_cons_succ]
          refine H.tk (i := 11) (v := .string pp) ?h11 hS ?_
          case h11 => exact (fun w hw => by go_simp)
          try simp only [Act.put, List.setIfInBounds_toArray, List.set_cons_zero, List.set_cons_succ]
          refine H.tk (i := 12) (v := .int .i64 (pp.size : Int)) ?h12 hS ?_
          case h12 => exact (fun w hw => by go_simp)
          try simp only [Act.put, List.setIfInBounds_toArray, List.set_cons_zero, List.set_cons_succ]
          refine H.tk (i := 13) (v := .int .i64 ((bt d 2 + 7) / 8 - (pf.size : Int) + (pp.size : Int))) ?h13 hS ?_
          case h13 => exact (fun w hw => by go_simp; rw [HW13.out])
          try simp only [Act.put, List.setIfInBounds_toArray, List.set_cons_zero, List.set_cons_succ]
          refine H.tk (i := 14) (v := .int .i64 ((bt d 2 + 7) / 8 - (pf.size : Int) + (pp.size : Int))) ?h14 hS ?_
          case h14 => exact (fun w hw => by go_simp)
          try simp only [Act.put, List.setIfInBounds_toArray, List.set_cons_zero, List.set_cons_succ]
          refine wpAnyH_done (by kernel_rfl) ?_ _
          go_wp2_with fail
          go_meet
          exact ⟨rfl, hS⟩
      case rest =>
        obtain ⟨rfl, hb⟩ := hcut
        have S0 := Lib.hid (S0.out.below hb)
        have HT := Lib.hid (HT.out.below hb)
        have XS1 := Lib.hid (XS1.out.below hb)
        have HM1 := Lib.hid (HM1.out.below hb)
        have HB := Lib.hid (bcall HB.out hb)
        clear hb HW3 HW4 HW10 HW13 i2 v2 v0
        generalize wc = V2 at *
        obtain ⟨hv, hhv⟩ : ∃ x, (bt d 2 + 7) / 8 - (pf.size : Int) + (pp.size : Int) = x := ⟨_, rfl⟩
        rw [hhv]
        have HHV := Lib.hid hhv
        clear hhv
        have hcz : hv ≤ 100000 ∧ -100000 ≤ hv := by have := HHV.out; have := HPS.out; omega
        go_upto_region 10 with fail
        have hsl : IntKind.i64.wrap (10 + (kn : Int)) = 10 + (kn : Int) := IntWalk.i64_in _ (by omega)
        have HSL := Lib.hid hsl
        have n1 := nil_eq pp
        have n2 := nil_em pp
        go_cut [125] (fun m wx => m = .bool (!goodB q.2.2 pp kn hv d) ∧ Below V2.heap.size V2 wx)
        case first =>
          as_aux_lemma =>
            clear P2 HOM HM1 HSH HTL
            generalize q.2.2 = er at *
            by_cases he : er = 0
            rotate_left
            · have HD := Lib.hid (show goodB er pp kn hv d = false by unfold goodB; rw [decide_eq_false he]; rfl)
              have e1 : (er == 0) = false := by simpa using he
              have e2 : (er != 0) = true := by rw [bne, e1]; rfl
              clear hsl n1 n2 he
              refine wp_region_held_drew (S := fun W => Below V2.heap.size V2 W) (by kernel_rfl) (Below.refl _ V2).drew (fun hS => ?_)
              generalize V2.drew = X0 at *
              refine H.tk (i := 0) (v := .int .i64 er) ?h0 hS ?_
              case h0 => exact (fun w hw => by go_simp)
              try simp only [Act.put, List.setIfInBounds_toArray, List.set_cons_zero, List.set_cons_succ]
              refine H.tk (i := 1) (v := .bool true) ?h1 hS ?_
              case h1 => exact (fun w hw => by go_simp)
              try simp only [Act.put, List.setIfInBounds_toArray, List.set_cons_zero, List.set_cons_succ]
              refine H.tk (i := 2) (v := (.bool true)) (fun w _ => rfl) hS ?_
              try simp only [Act.put, List.setIfInBounds_toArray, List.set_cons_zero, List.set_cons_succ]
              refine H.sk (i := 3) (d := 95) hS ?_
              try simp only [Act.put, List.setIfInBounds_toArray, List.set_cons_zero, List.set_cons_succ]
              refine H.sk (i := 4) (d := 96) hS ?_
              try simp only [Act.put, List.setIfInBounds_toArray, List.set_cons_zero, List.set_cons_succ]
              refine H.tk (i := 5) (v := (Value.bool true)) (fun w _ => rfl) hS ?_
              try simp only [Act.put, List.setIfInBounds_toArray, List.set_cons_zero, List.set_cons_succ]
              refine H.tk (i := 6) (v := (Value.bool true)) (fun w _ => rfl) hS ?_
              try simp only [Act.put, List.setIfInBounds_toArray, List.set_cons_zero, List.set_cons_succ]
              refine H.sk (i := 7) (d := 99) hS ?_
              try simp only [Act.put, List.setIfInBounds_toArray, List.set_cons_zero, List.set_cons_succ]
              refine H.sk (i := 8) (d := 100) hS ?_
              try simp only [Act.put, List.setIfInBounds_toArray, List.set_cons_zero, List.set_cons_succ]
              refine H.sk (i := 9) (d := 101) hS ?_
              try simp only [Act.put, List.setIfInBounds_toArray, List.set_cons_zero, List.set_cons_succ]
              refine H.tk (i := 10) (v := (Value.bool true)) (fun w _ => rfl) hS ?_
              try simp only [Act.put, List.setIfInBounds_toArray, List.set_cons_zero, List.set_cons_succ]
              refine H.tk (i := 11) (v := (Value.bool true)) (fun w _ => rfl) hS ?_
              try simp only [Act.put, List.setIfInBounds_toArray, List.set_cons_zero, List.set_cons_succ]
              refine H.sk (i := 12) (d := 104) hS ?_
              try simp only [Act.put, List.setIfInBounds_toArray, List.set_cons_zero, List.set_cons_succ]
              refine H.sk (i := 13) (d := 105) hS ?_
              try simp only [Act.put, List.setIfInBounds_toArray, List.set_cons_zero, List.set_cons_succ]
              refine H.sk (i := 14) (d := 106) hS ?_
              try simp only [Act.put, List.setIfInBounds_toArray, List.set_cons_zero, List.set_cons_succ]
              refine H.sk (i := 15) (d := 107) hS ?_
              try simp only [Act.put, List.setIfInBounds_toArray, List.set_cons_zero, List.set_cons_succ]
              refine H.tk (i := 16) (v := (Value.bool true)) (fun w _ => rfl) hS ?_
              try simp only [Act.put, List.setIfInBounds_toArray, List.set_cons_zero, List.set_cons_succ]
              refine H.tk (i := 17) (v := (Value.bool true)) (fun w _ => rfl) hS ?_
              try simp only [Act.put, List.setIfInBounds_toArray, List.set_cons_zero, List.set_cons_succ]
              refine H.sk (i := 18) (d := 110) hS ?_
              try simp only [Act.put, List.setIfInBounds_toArray, List.set_cons_zero, List.set_cons_succ]
              refine H.sk (i := 19) (d := 111) hS ?_
              try simp only [Act.put, List.setIfInBounds_toArray, List.set_cons_zero, List.set_cons_succ]
              refine H.sk (i := 20) (d := 112) hS ?_
              try simp only [Act.put, List.setIfInBounds_toArray, List.set_cons_zero, List.set_cons_succ]
              refine H.sk (i := 21) (d := 113) hS ?_
              try simp only [Act.put, List.setIfInBounds_toArray, List.set_cons_zero, List.set_cons_succ]
              refine H.sk (i := 22) (d := 114) hS ?_
              try simp only [Act.put, List.setIfInBounds_toArray, List.set_cons_zero, List.set_cons_succ]
              refine H.tk (i := 23) (v := (Value.bool true)) (fun w _ => rfl) hS ?_
              try simp only [Act.put, List.setIfInBounds_toArray, List.set_cons_zero, List.set_cons_succ]
              refine H.tk (i := 24) (v := (Value.bool true)) (fun w _ => rfl) hS ?_
              try simp only [Act.put, List.setIfInBounds_toArray, List.set_cons_zero, List.set_cons_succ]
              refine H.sk (i := 25) (d := 117) hS ?_
              try simp only [Act.put, List.setIfInBounds_toArray, List.set_cons_zero, List.set_cons_succ]
              refine H.sk (i := 26) (d := 118) hS ?_
              try simp only [Act.put, List.setIfInBounds_toArray, List.set_cons_zero, List.set_cons_succ]
              refine H.sk (i := 27) (d := 119) hS ?_
              try simp only [Act.put, List.setIfInBounds_toArray, List.set_cons_zero, List.set_cons_succ]
              refine H.sk (i := 28) (d := 120) hS ?_
              try simp only [Act.put, List.setIfInBounds_toArray, List.set_cons_zero, List.set_cons_succ]
              refine H.sk (i := 29) (d := 121) hS ?_
              try simp only [Act.put, List.setIfInBounds_toArray, List.set_cons_zero, List.set_cons_succ]
              refine H.sk (i := 30) (d := 122) hS ?_
              try simp only [Act.put, List.setIfInBounds_toArray, List.set_cons_zero, List.set_cons_succ]
              refine H.sk (i := 31) (d := 123) hS ?_
              try simp only [Act.put, List.setIfInBounds_toArray, List.set_cons_zero, List.set_cons_succ]
              refine H.sk (i := 32) (d := 124) hS ?_
              try simp only [Act.put, List.setIfInBounds_toArray, List.set_cons_zero, List.set_cons_succ]
              refine H.tk (i := 33) (v := (Value.bool true)) (fun w _ => rfl) hS ?_
              try simp only [Act.put, List.setIfInBounds_toArray, List.set_cons_zero, List.set_cons_succ]
              refine wpAnyH_done (by kernel_rfl) ?_ _
              go_wp2_with fail
              go_meet
              exact ⟨by rw [HD.out]; rfl, hS⟩
            subst he
            by_cases hz : pp.size = 0
            · have HD := Lib.hid (show goodB 0 pp kn hv d = false by unfold goodB; rw [decide_eq_true hz]; rfl)
              rw [decide_eq_true hz] at n1 n2
              clear hsl
              refine wp_region_held_drew (S := fun W => Below V2.heap.size V2 W) (by kernel_rfl) (Below.refl _ V2).drew (fun hS => ?_)
              generalize V2.drew = X0 at *
              refine H.tk (i := 0) (v := .int .i64 0) ?h0 hS ?_
              case h0 => exact (fun w hw => by go_simp)
              try simp only [Act.put, List.setIfInBounds_toArray, List.set_cons_zero, List.set_cons_succ]
              refine H.tk (i := 1) (v := .bool false) ?h1 hS ?_
              case h1 => exact (fun w hw => by go_simp)
              try simp only [Act.put, List.setIfInBounds_toArray, List.set_cons_zero, List.set_cons_succ]
              refine H.tk (i := 2) (v := (.bool false)) (fun w _ => rfl) hS ?_
              try simp only [Act.put, List.setIfInBounds_toArray, List.set_cons_zero, List.set_cons_succ]
              refine H.tk (i := 3) (v := .string pp) ?h3 hS ?_
              case h3 => exact (fun w hw => by go_simp)
              try simp only [Act.put, List.setIfInBounds_toArray, List.set_cons_zero, List.set_cons_succ]
              refine H.tk (i := 4) (v := .bool true) ?h4 hS ?_
              case h4 => exact (fun w hw => by go_simp)
              try simp only [Act.put, List.setIfInBounds_toArray, List.set_cons_zero, List.set_cons_succ]
              refine H.tk (i := 5) (v := (.bool true)) (fun w _ => rfl) hS ?_
              try simp only [Act.put, List.setIfInBounds_toArray, List.set_cons_zero, List.set_cons_succ]
              refine H.tk (i := 6) (v := (.bool true)) (fun w _ => rfl) hS ?_
              try simp only [Act.put, List.setIfInBounds_toArray, List.set_cons_zero, List.set_cons_succ]
              refine H.sk (i := 7) (d := 99) hS ?_
              try simp only [Act.put, List.setIfInBounds_toArray, List.set_cons_zero, List.set_cons_succ]
              refine H.sk (i := 8) (d := 100) hS ?_
              try simp only [Act.put, List.setIfInBounds_toArray, List.set_cons_zero, List.set_cons_succ]
              refine H.sk (i := 9) (d := 101) hS ?_
              try simp only [Act.put, List.setIfInBounds_toArray, List.set_cons_zero, List.set_cons_succ]
              refine H.tk (i := 10) (v := (Value.bool true)) (fun w _ => rfl) hS ?_
              try simp only [Act.put, List.setIfInBounds_toArray, List.set_cons_zero, List.set_cons_succ]
              refine H.tk (i := 11) (v := (Value.bool true)) (fun w _ => rfl) hS ?_
              try simp only [Act.put, List.setIfInBounds_toArray, List.set_cons_zero, List.set_cons_succ]
              refine H.sk (i := 12) (d := 104) hS ?_
              try simp only [Act.put, List.setIfInBounds_toArray, List.set_cons_zero, List.set_cons_succ]
              refine H.sk (i := 13) (d := 105) hS ?_
              try simp only [Act.put, List.setIfInBounds_toArray, List.set_cons_zero, List.set_cons_succ]
              refine H.sk (i := 14) (d := 106) hS ?_
              try simp only [Act.put, List.setIfInBounds_toArray, List.set_cons_zero, List.set_cons_succ]
              refine H.sk (i := 15) (d := 107) hS ?_
              try simp only [Act.put, List.setIfInBounds_toArray, List.set_cons_zero, List.set_cons_succ]
              refine H.tk (i := 16) (v := (Value.bool true)) (fun w _ => rfl) hS ?_
              try simp only [Act.put, List.setIfInBounds_toArray, List.set_cons_zero, List.set_cons_succ]
              refine H.tk (i := 17) (v := (Value.bool true)) (fun w _ => rfl) hS ?_
              try simp only [Act.put, List.setIfInBounds_toArray, List.set_cons_zero, List.set_cons_succ]
              refine H.sk (i := 18) (d := 110) hS ?_
              try simp only [Act.put, List.setIfInBounds_toArray, List.set_cons_zero, List.set_cons_succ]
              refine H.sk (i := 19) (d := 111) hS ?_
              try simp only [Act.put, List.setIfInBounds_toArray, List.set_cons_zero, List.set_cons_succ]
              refine H.sk (i := 20) (d := 112) hS ?_
              try simp only [Act.put, List.setIfInBounds_toArray, List.set_cons_zero, List.set_cons_succ]
              refine H.sk (i := 21) (d := 113) hS ?_
              try simp only [Act.put, List.setIfInBounds_toArray, List.set_cons_zero, List.set_cons_succ]
              refine H.sk (i := 22) (d := 114) hS ?_
              try simp only [Act.put, List.setIfInBounds_toArray, List.set_cons_zero, List.set_cons_succ]
              refine H.tk (i := 23) (v := (Value.bool true)) (fun w _ => rfl) hS ?_
              try simp only [Act.put, List.setIfInBounds_toArray, List.set_cons_zero, List.set_cons_succ]
              refine H.tk (i := 24) (v := (Value.bool true)) (fun w _ => rfl) hS ?_
              try simp only [Act.put, List.setIfInBounds_toArray, List.set_cons_zero, List.set_cons_succ]
              refine H.sk (i := 25) (d := 117) hS ?_
              try simp only [Act.put, List.setIfInBounds_toArray, List.set_cons_zero, List.set_cons_succ]
              refine H.sk (i := 26) (d := 118) hS ?_
              try simp only [Act.put, List.setIfInBounds_toArray, List.set_cons_zero, List.set_cons_succ]
              refine H.sk (i := 27) (d := 119) hS ?_
              try simp only [Act.put, List.setIfInBounds_toArray, List.set_cons_zero, List.set_cons_succ]
              refine H.sk (i := 28) (d := 120) hS ?_
              try simp only [Act.put, List.setIfInBounds_toArray, List.set_cons_zero, List.set_cons_succ]
              refine H.sk (i := 29) (d := 121) hS ?_
              try simp only [Act.put, List.setIfInBounds_toArray, List.set_cons_zero, List.set_cons_succ]
              refine H.sk (i := 30) (d := 122) hS ?_
              try simp only [Act.put, List.setIfInBounds_toArray, List.set_cons_zero, List.set_cons_succ]
              refine H.sk (i := 31) (d := 123) hS ?_
              try simp only [Act.put, List.setIfInBounds_toArray, List.set_cons_zero, List.set_cons_succ]
              refine H.sk (i := 32) (d := 124) hS ?_
              try simp only [Act.put, List.setIfInBounds_toArray, List.set_cons_zero, List.set_cons_succ]
              refine H.tk (i := 33) (v := (Value.bool true)) (fun w _ => rfl) hS ?_
              try simp only [Act.put, List.setIfInBounds_toArray, List.set_cons_zero, List.set_cons_succ]
              refine wpAnyH_done (by kernel_rfl) ?_ _
              go_wp2_with fail
              go_meet
              exact ⟨by rw [HD.out]; rfl, hS⟩
            rw [decide_eq_false hz] at n1 n2
            by_cases hh : (kn : Int) ≤ hv
            rotate_left
            · have HD := Lib.hid (show goodB 0 pp kn hv d = false by unfold goodB; rw [decide_eq_false hh, Bool.false_and, Bool.and_false, Bool.and_false])
              have hh2 : hv < (kn : Int) := by omega
              clear hsl
              refine wp_region_held_drew (S := fun W => Below V2.heap.size V2 W) (by kernel_rfl) (Below.refl _ V2).drew (fun hS => ?_)
              generalize V2.drew = X0 at *
              refine H.tk (i := 0) (v := .int .i64 0) ?h0 hS ?_
              case h0 => exact (fun w hw => by go_simp)
              try simp only [Act.put, List.setIfInBounds_toArray, List.set_cons_zero, List.set_cons_succ]
              refine H.tk (i := 1) (v := .bool false) ?h1 hS ?_
              case h1 => exact (fun w hw => by go_simp)
              try simp only [Act.put, List.setIfInBounds_toArray, List.set_cons_zero, List.set_cons_succ]
              refine H.tk (i := 2) (v := (.bool false)) (fun w _ => rfl) hS ?_
              try simp only [Act.put, List.setIfInBounds_toArray, List.set_cons_zero, List.set_cons_succ]
              refine H.tk (i := 3) (v := .string pp) ?h3 hS ?_
              case h3 => exact (fun w hw => by go_simp)
              try simp only [Act.put, List.setIfInBounds_toArray, List.set_cons_zero, List.set_cons_succ]
              refine H.tk (i := 4) (v := .bool false) ?h4 hS ?_
              case h4 => exact (fun w hw => by go_simp)
              try simp only [Act.put, List.setIfInBounds_toArray, List.set_cons_zero, List.set_cons_succ]
              refine H.tk (i := 5) (v := (.bool false)) (fun w _ => rfl) hS ?_
              try simp only [Act.put, List.setIfInBounds_toArray, List.set_cons_zero, List.set_cons_succ]
              refine H.tk (i := 6) (v := (.bool false)) (fun w _ => rfl) hS ?_
              try simp only [Act.put, List.setIfInBounds_toArray, List.set_cons_zero, List.set_cons_succ]
              refine H.tk (i := 7) (v := .int .i64 (kn : Int)) ?h7 hS ?_
              case h7 => exact (fun w hw => by go_simp)
              try simp only [Act.put, List.setIfInBounds_toArray, List.set_cons_zero, List.set_cons_succ]
              refine H.tk (i := 8) (v := .int .i64 hv) ?h8 hS ?_
              case h8 => exact (fun w hw => by go_simp)
              try simp only [Act.put, List.setIfInBounds_toArray, List.set_cons_zero, List.set_cons_succ]
              refine H.tk (i := 9) (v := .bool true) ?h9 hS ?_
              case h9 => exact (fun w hw => by go_simp)
              try simp only [Act.put, List.setIfInBounds_toArray, List.set_cons_zero, List.set_cons_succ]
              refine H.tk (i := 10) (v := (.bool true)) (fun w _ => rfl) hS ?_
              try simp only [Act.put, List.setIfInBounds_toArray, List.set_cons_zero, List.set_cons_succ]
              refine H.tk (i := 11) (v := (.bool true)) (fun w _ => rfl) hS ?_
              try simp only [Act.put, List.setIfInBounds_toArray, List.set_cons_zero, List.set_cons_succ]
              refine H.sk (i := 12) (d := 104) hS ?_
              try simp only [Act.put, List.setIfInBounds_toArray, List.set_cons_zero, List.set_cons_succ]
              refine H.sk (i := 13) (d := 105) hS ?_
              try simp only [Act.put, List.setIfInBounds_toArray, List.set_cons_zero, List.set_cons_succ]
              refine H.sk (i := 14) (d := 106) hS ?_
              try simp only [Act.put, List.setIfInBounds_toArray, List.set_cons_zero, List.set_cons_succ]
              refine H.sk (i := 15) (d := 107) hS ?_
              try simp only [Act.put, List.setIfInBounds_toArray, List.set_cons_zero, List.set_cons_succ]
              refine H.tk (i := 16) (v := (Value.bool true)) (fun w _ => rfl) hS ?_
              try simp only [Act.put, List.setIfInBounds_toArray, List.set_cons_zero, List.set_cons_succ]
              refine H.tk (i := 17) (v := (Value.bool true)) (fun w _ => rfl) hS ?_
              try simp only [Act.put, List.setIfInBounds_toArray, List.set_cons_zero, List.set_cons_succ]
              refine H.sk (i := 18) (d := 110) hS ?_
              try simp only [Act.put, List.setIfInBounds_toArray, List.set_cons_zero, List.set_cons_succ]
              refine H.sk (i := 19) (d := 111) hS ?_
              try simp only [Act.put, List.setIfInBounds_toArray, List.set_cons_zero, List.set_cons_succ]
              refine H.sk (i := 20) (d := 112) hS ?_
              try simp only [Act.put, List.setIfInBounds_toArray, List.set_cons_zero, List.set_cons_succ]
              refine H.sk (i := 21) (d := 113) hS ?_
              try simp only [Act.put, List.setIfInBounds_toArray, List.set_cons_zero, List.set_cons_succ]
              refine H.sk (i := 22) (d := 114) hS ?_
              try simp only [Act.put, List.setIfInBounds_toArray, List.set_cons_zero, List.set_cons_succ]
              refine H.tk (i := 23) (v := (Value.bool true)) (fun w _ => rfl) hS ?_
              try simp only [Act.put, List.setIfInBounds_toArray, List.set_cons_zero, List.set_cons_succ]
              refine H.tk (i := 24) (v := (Value.bool true)) (fun w _ => rfl) hS ?_
              try simp only [Act.put, List.setIfInBounds_toArray, List.set_cons_zero, List.set_cons_succ]
              refine H.sk (i := 25) (d := 117) hS ?_
              try simp only [Act.put, List.setIfInBounds_toArray, List.set_cons_zero, List.set_cons_succ]
              refine H.sk (i := 26) (d := 118) hS ?_
              try simp only [Act.put, List.setIfInBounds_toArray, List.set_cons_zero, List.set_cons_succ]
              refine H.sk (i := 27) (d := 119) hS ?_
              try simp only [Act.put, List.setIfInBounds_toArray, List.set_cons_zero, List.set_cons_succ]
              refine H.sk (i := 28) (d := 120) hS ?_
              try simp only [Act.put, List.setIfInBounds_toArray, List.set_cons_zero, List.set_cons_succ]
              refine H.sk (i := 29) (d := 121) hS ?_
              try simp only [Act.put, List.setIfInBounds_toArray, List.set_cons_zero, List.set_cons_succ]
              refine H.sk (i := 30) (d := 122) hS ?_
              try simp only [Act.put, List.setIfInBounds_toArray, List.set_cons_zero, List.set_cons_succ]
              refine H.sk (i := 31) (d := 123) hS ?_
              try simp only [Act.put, List.setIfInBounds_toArray, List.set_cons_zero, List.set_cons_succ]
              refine H.sk (i := 32) (d := 124) hS ?_
              try simp only [Act.put, List.setIfInBounds_toArray, List.set_cons_zero, List.set_cons_succ]
              refine H.tk (i := 33) (v := (Value.bool true)) (fun w _ => rfl) hS ?_
              try simp only [Act.put, List.setIfInBounds_toArray, List.set_cons_zero, List.set_cons_succ]
              refine wpAnyH_done (by kernel_rfl) ?_ _
              go_wp2_with fail
              go_meet
              exact ⟨by rw [HD.out]; rfl, hS⟩
            by_cases hp : kn ≤ pp.size
            rotate_left
            · have HD := Lib.hid (show goodB 0 pp kn hv d = false by unfold goodB; rw [decide_eq_false hp, Bool.false_and, Bool.and_false, Bool.and_false, Bool.and_false])
              have hp' : (pp.size : Int) < (kn : Int) := by omega
              clear hsl
              refine wp_region_held_drew (S := fun W => Below V2.heap.size V2 W) (by kernel_rfl) (Below.refl _ V2).drew (fun hS => ?_)
              generalize V2.drew = X0 at *
              refine H.tk (i := 0) (v := .int .i64 0) ?h0 hS ?_
              case h0 => exact (fun w hw => by go_simp)
              try simp only [Act.put, List.setIfInBounds_toArray, List.set_cons_zero, List.set_cons_succ]
              refine H.tk (i := 1) (v := .bool false) ?h1 hS ?_
              case h1 => exact (fun w hw => by go_simp)
              try simp only [Act.put, List.setIfInBounds_toArray, List.set_cons_zero, List.set_cons_succ]
              refine H.tk (i := 2) (v := (.bool false)) (fun w _ => rfl) hS ?_
              try simp only [Act.put, List.setIfInBounds_toArray, List.set_cons_zero, List.set_cons_succ]
              refine H.tk (i := 3) (v := .string pp) ?h3 hS ?_
              case h3 => exact (fun w hw => by go_simp)
              try simp only [Act.put, List.setIfInBounds_toArray, List.set_cons_zero, List.set_cons_succ]
              refine H.tk (i := 4) (v := .bool false) ?h4 hS ?_
              case h4 => exact (fun w hw => by go_simp)
              try simp only [Act.put, List.setIfInBounds_toArray, List.set_cons_zero, List.set_cons_succ]
              refine H.tk (i := 5) (v := (.bool false)) (fun w _ => rfl) hS ?_
              try simp only [Act.put, List.setIfInBounds_toArray, List.set_cons_zero, List.set_cons_succ]
              refine H.tk (i := 6) (v := (.bool false)) (fun w _ => rfl) hS ?_
              try simp only [Act.put, List.setIfInBounds_toArray, List.set_cons_zero, List.set_cons_succ]
              refine H.tk (i := 7) (v := .int .i64 (kn : Int)) ?h7 hS ?_
              case h7 => exact (fun w hw => by go_simp)
              try simp only [Act.put, List.setIfInBounds_toArray, List.set_cons_zero, List.set_cons_succ]
              refine H.tk (i := 8) (v := .int .i64 hv) ?h8 hS ?_
              case h8 => exact (fun w hw => by go_simp)
              try simp only [Act.put, List.setIfInBounds_toArray, List.set_cons_zero, List.set_cons_succ]
              refine H.tk (i := 9) (v := .bool false) ?h9 hS ?_
              case h9 => exact (fun w hw => by go_simp)
              try simp only [Act.put, List.setIfInBounds_toArray, List.set_cons_zero, List.set_cons_succ]
              refine H.tk (i := 10) (v := (.bool false)) (fun w _ => rfl) hS ?_
              try simp only [Act.put, List.setIfInBounds_toArray, List.set_cons_zero, List.set_cons_succ]
              refine H.tk (i := 11) (v := (.bool false)) (fun w _ => rfl) hS ?_
              try simp only [Act.put, List.setIfInBounds_toArray, List.set_cons_zero, List.set_cons_succ]
              refine H.tk (i := 12) (v := .int .i64 (kn : Int)) ?h12 hS ?_
              case h12 => exact (fun w hw => by go_simp)
              try simp only [Act.put, List.setIfInBounds_toArray, List.set_cons_zero, List.set_cons_succ]
              refine H.tk (i := 13) (v := .string pp) ?h13 hS ?_
              case h13 => exact (fun w hw => by go_simp)
              try simp only [Act.put, List.setIfInBounds_toArray, List.set_cons_zero, List.set_cons_succ]
              refine H.tk (i := 14) (v := .int .i64 (pp.size : Int)) ?h14 hS ?_
              case h14 => exact (fun w hw => by go_simp)
              try simp only [Act.put, List.setIfInBounds_toArray, List.set_cons_zero, List.set_cons_succ]
              refine H.tk (i := 15) (v := .bool true) ?h15 hS ?_
              case h15 => exact (fun w hw => by go_simp)
              try simp only [Act.put, List.setIfInBounds_toArray, List.set_cons_zero, List.set_cons_succ]
              refine H.tk (i := 16) (v := (.bool true)) (fun w _ => rfl) hS ?_
              try simp only [Act.put, List.setIfInBounds_toArray, List.set_cons_zero, List.set_cons_succ]
              refine H.tk (i := 17) (v := (.bool true)) (fun w _ => rfl) hS ?_
              try simp only [Act.put, List.setIfInBounds_toArray, List.set_cons_zero, List.set_cons_succ]
              refine H.sk (i := 18) (d := 110) hS ?_
              try simp only [Act.put, List.setIfInBounds_toArray, List.set_cons_zero, List.set_cons_succ]
              refine H.sk (i := 19) (d := 111) hS ?_
              try simp only [Act.put, List.setIfInBounds_toArray, List.set_cons_zero, List.set_cons_succ]
              refine H.sk (i := 20) (d := 112) hS ?_
              try simp only [Act.put, List.setIfInBounds_toArray, List.set_cons_zero, List.set_cons_succ]
              refine H.sk (i := 21) (d := 113) hS ?_
              try simp only [Act.put, List.setIfInBounds_toArray, List.set_cons_zero, List.set_cons_succ]
              refine H.sk (i := 22) (d := 114) hS ?_
              try simp only [Act.put, List.setIfInBounds_toArray, List.set_cons_zero, List.set_cons_succ]
              refine H.tk (i := 23) (v := (Value.bool true)) (fun w _ => rfl) hS ?_
              try simp only [Act.put, List.setIfInBounds_toArray, List.set_cons_zero, List.set_cons_succ]
              refine H.tk (i := 24) (v := (Value.bool true)) (fun w _ => rfl) hS ?_
              try simp only [Act.put, List.setIfInBounds_toArray, List.set_cons_zero, List.set_cons_succ]
              refine H.sk (i := 25) (d := 117) hS ?_
              try simp only [Act.put, List.setIfInBounds_toArray, List.set_cons_zero, List.set_cons_succ]
              refine H.sk (i := 26) (d := 118) hS ?_
              try simp only [Act.put, List.setIfInBounds_toArray, List.set_cons_zero, List.set_cons_succ]
              refine H.sk (i := 27) (d := 119) hS ?_
              try simp only [Act.put, List.setIfInBounds_toArray, List.set_cons_zero, List.set_cons_succ]
              refine H.sk (i := 28) (d := 120) hS ?_
              try simp only [Act.put, List.setIfInBounds_toArray, List.set_cons_zero, List.set_cons_succ]
              refine H.sk (i := 29) (d := 121) hS ?_
              try simp only [Act.put, List.setIfInBounds_toArray, List.set_cons_zero, List.set_cons_succ]
              refine H.sk (i := 30) (d := 122) hS ?_
              try simp only [Act.put, List.setIfInBounds_toArray, List.set_cons_zero, List.set_cons_succ]
              refine H.sk (i := 31) (d := 123) hS ?_
              try simp only [Act.put, List.setIfInBounds_toArray, List.set_cons_zero, List.set_cons_succ]
              refine H.sk (i := 32) (d := 124) hS ?_
              try simp only [Act.put, List.setIfInBounds_toArray, List.set_cons_zero, List.set_cons_succ]
              refine H.tk (i := 33) (v := (Value.bool true)) (fun w _ => rfl) hS ?_
              try simp only [Act.put, List.setIfInBounds_toArray, List.set_cons_zero, List.set_cons_succ]
              refine wpAnyH_done (by kernel_rfl) ?_ _
              go_wp2_with fail
              go_meet
              exact ⟨by rw [HD.out]; rfl, hS⟩
            have hp' : ¬ (pp.size : Int) < (kn : Int) := by omega
            by_cases hd : 10 + kn ≤ d.size
            rotate_left
            · have HD := Lib.hid (show goodB 0 pp kn hv d = false by unfold goodB; rw [decide_eq_false hd, Bool.false_and, Bool.and_false, Bool.and_false, Bool.and_false, Bool.and_false])
              have hd' : (d.size : Int) < 10 + (kn : Int) := by omega
              clear hsl
              refine wp_region_held_drew (S := fun W => Below V2.heap.size V2 W) (by kernel_rfl) (Below.refl _ V2).drew (fun hS => ?_)
              generalize V2.drew = X0 at *
              refine H.tk (i := 0) (v := .int .i64 0) ?h0 hS ?_
              case h0 => exact (fun w hw => by go_simp)
              try simp only [Act.put, List.setIfInBounds_toArray, List.set_cons_zero, List.set_cons_succ]
              refine H.tk (i := 1) (v := .bool false) ?h1 hS ?_
              case h1 => exact (fun w hw => by go_simp)
              try simp only [Act.put, List.setIfInBounds_toArray, List.set_cons_zero, List.set_cons_succ]
              refine H.tk (i := 2) (v := (.bool false)) (fun w _ => rfl) hS ?_
              try simp only [Act.put, List.setIfInBounds_toArray, List.set_cons_zero, List.set_cons_succ]
              refine H.tk (i := 3) (v := .string pp) ?h3 hS ?_
              case h3 => exact (fun w hw => by go_simp)
              try simp only [Act.put, List.setIfInBounds_toArray, List.set_cons_zero, List.set_cons_succ]
              refine H.tk (i := 4) (v := .bool false) ?h4 hS ?_
              case h4 => exact (fun w hw => by go_simp)
              try simp only [Act.put, List.setIfInBounds_toArray, List.set_cons_zero, List.set_cons_succ]
              refine H.tk (i := 5) (v := (.bool false)) (fun w _ => rfl) hS ?_
              try simp only [Act.put, List.setIfInBounds_toArray, List.set_cons_zero, List.set_cons_succ]
              refine H.tk (i := 6) (v := (.bool false)) (fun w _ => rfl) hS ?_
              try simp only [Act.put, List.setIfInBounds_toArray, List.set_cons_zero, List.set_cons_succ]
              refine H.tk (i := 7) (v := .int .i64 (kn : Int)) ?h7 hS ?_
              case h7 => exact (fun w hw => by go_simp)
              try simp only [Act.put, List.setIfInBounds_toArray, List.set_cons_zero, List.set_cons_succ]
              refine H.tk (i := 8) (v := .int .i64 hv) ?h8 hS ?_
              case h8 => exact (fun w hw => by go_simp)
              try simp only [Act.put, List.setIfInBounds_toArray, List.set_cons_zero, List.set_cons_succ]
              refine H.tk (i := 9) (v := .bool false) ?h9 hS ?_
              case h9 => exact (fun w hw => by go_simp)
              try simp only [Act.put, List.setIfInBounds_toArray, List.set_cons_zero, List.set_cons_succ]
              refine H.tk (i := 10) (v := (.bool false)) (fun w _ => rfl) hS ?_
              try simp only [Act.put, List.setIfInBounds_toArray, List.set_cons_zero, List.set_cons_succ]
              refine H.tk (i := 11) (v := (.bool false)) (fun w _ => rfl) hS ?_
              try simp only [Act.put, List.setIfInBounds_toArray, List.set_cons_zero, List.set_cons_succ]
              refine H.tk (i := 12) (v := .int .i64 (kn : Int)) ?h12 hS ?_
              case h12 => exact (fun w hw => by go_simp)
              try simp only [Act.put, List.setIfInBounds_toArray, List.set_cons_zero, List.set_cons_succ]
              refine H.tk (i := 13) (v := .string pp) ?h13 hS ?_
              case h13 => exact (fun w hw => by go_simp)
              try simp only [Act.put, List.setIfInBounds_toArray, List.set_cons_zero, List.set_cons_succ]
              refine H.tk (i := 14) (v := .int .i64 (pp.size : Int)) ?h14 hS ?_
              case h14 => exact (fun w hw => by go_simp)
              try simp only [Act.put, List.setIfInBounds_toArray, List.set_cons_zero, List.set_cons_succ]
              refine H.tk (i := 15) (v := .bool false) ?h15 hS ?_
              case h15 => exact (fun w hw => by go_simp)
              try simp only [Act.put, List.setIfInBounds_toArray, List.set_cons_zero, List.set_cons_succ]
              refine H.tk (i := 16) (v := (.bool false)) (fun w _ => rfl) hS ?_
              try simp only [Act.put, List.setIfInBounds_toArray, List.set_cons_zero, List.set_cons_succ]
              refine H.tk (i := 17) (v := (.bool false)) (fun w _ => rfl) hS ?_
              try simp only [Act.put, List.setIfInBounds_toArray, List.set_cons_zero, List.set_cons_succ]
              refine H.tk (i := 18) (v := .string d) ?h18 hS ?_
              case h18 => exact (fun w hw => by go_simp)
              try simp only [Act.put, List.setIfInBounds_toArray, List.set_cons_zero, List.set_cons_succ]
              refine H.tk (i := 19) (v := .int .i64 (d.size : Int)) ?h19 hS ?_
              case h19 => exact (fun w hw => by go_simp)
              try simp only [Act.put, List.setIfInBounds_toArray, List.set_cons_zero, List.set_cons_succ]
              refine H.tk (i := 20) (v := .int .i64 (kn : Int)) ?h20 hS ?_
              case h20 => exact (fun w hw => by go_simp)
              try simp only [Act.put, List.setIfInBounds_toArray, List.set_cons_zero, List.set_cons_succ]
              refine H.tk (i := 21) (v := .int .i64 (10 + (kn : Int))) ?h21 hS ?_
              case h21 => exact (fun w hw => by go_simp; rw [HSL.out])
              try simp only [Act.put, List.setIfInBounds_toArray, List.set_cons_zero, List.set_cons_succ]
              refine H.tk (i := 22) (v := .bool true) ?h22 hS ?_
              case h22 => exact (fun w hw => by go_simp)
              try simp only [Act.put, List.setIfInBounds_toArray, List.set_cons_zero, List.set_cons_succ]
              refine H.tk (i := 23) (v := (.bool true)) (fun w _ => rfl) hS ?_
              try simp only [Act.put, List.setIfInBounds_toArray, List.set_cons_zero, List.set_cons_succ]
              refine H.tk (i := 24) (v := (.bool true)) (fun w _ => rfl) hS ?_
              try simp only [Act.put, List.setIfInBounds_toArray, List.set_cons_zero, List.set_cons_succ]
              refine H.sk (i := 25) (d := 117) hS ?_
              try simp only [Act.put, List.setIfInBounds_toArray, List.set_cons_zero, List.set_cons_succ]
              refine H.sk (i := 26) (d := 118) hS ?_
              try simp only [Act.put, List.setIfInBounds_toArray, List.set_cons_zero, List.set_cons_succ]
              refine H.sk (i := 27) (d := 119) hS ?_
              try simp only [Act.put, List.setIfInBounds_toArray, List.set_cons_zero, List.set_cons_succ]
              refine H.sk (i := 28) (d := 120) hS ?_
              try simp only [Act.put, List.setIfInBounds_toArray, List.set_cons_zero, List.set_cons_succ]
              refine H.sk (i := 29) (d := 121) hS ?_
              try simp only [Act.put, List.setIfInBounds_toArray, List.set_cons_zero, List.set_cons_succ]
              refine H.sk (i := 30) (d := 122) hS ?_
              try simp only [Act.put, List.setIfInBounds_toArray, List.set_cons_zero, List.set_cons_succ]
              refine H.sk (i := 31) (d := 123) hS ?_
              try simp only [Act.put, List.setIfInBounds_toArray, List.set_cons_zero, List.set_cons_succ]
              refine H.sk (i := 32) (d := 124) hS ?_
              try simp only [Act.put, List.setIfInBounds_toArray, List.set_cons_zero, List.set_cons_succ]
              refine H.tk (i := 33) (v := (Value.bool true)) (fun w _ => rfl) hS ?_
              try simp only [Act.put, List.setIfInBounds_toArray, List.set_cons_zero, List.set_cons_succ]
              refine wpAnyH_done (by kernel_rfl) ?_ _
              go_wp2_with fail
              go_meet
              exact ⟨by rw [HD.out]; rfl, hS⟩
            have hd' : ¬ (d.size : Int) < 10 + (kn : Int) := by omega
            have sa := sl_m d 10 (10 + (kn : Int)) 10 (10 + kn) rfl (by omega) (by omega) hd
            have sp := sl_h pp (kn : Int) kn rfl hp
            have HG := Lib.hid (show goodB 0 pp kn hv d = ((d.extract 10 (10 + kn)).toList == (pp.extract 0 kn).toList) by
              unfold goodB
              rw [decide_eq_false hz, decide_eq_true hh, decide_eq_true hp, decide_eq_true hd, decide_eq_true rfl, Bool.not_false, Bool.true_and, Bool.true_and, Bool.true_and, Bool.true_and, Bool.true_and])
            clear hsl
            generalize d.extract 10 (10 + kn) = da at *
            generalize pp.extract 0 kn = pa at *
            cases hq : (da.toList == pa.toList)
            · rw [hq] at HG
              have HD := HG
              have hq2 : (da.toList != pa.toList) = true := by rw [bne, hq]; rfl
              refine wp_region_held_drew (S := fun W => Below V2.heap.size V2 W) (by kernel_rfl) (Below.refl _ V2).drew (fun hS => ?_)
              generalize V2.drew = X0 at *
              refine H.tk (i := 0) (v := .int .i64 0) ?h0 hS ?_
              case h0 => exact (fun w hw => by go_simp)
              try simp only [Act.put, List.setIfInBounds_toArray, List.set_cons_zero, List.set_cons_succ]
              refine H.tk (i := 1) (v := .bool false) ?h1 hS ?_
              case h1 => exact (fun w hw => by go_simp)
              try simp only [Act.put, List.setIfInBounds_toArray, List.set_cons_zero, List.set_cons_succ]
              refine H.tk (i := 2) (v := (.bool false)) (fun w _ => rfl) hS ?_
              try simp only [Act.put, List.setIfInBounds_toArray, List.set_cons_zero, List.set_cons_succ]
              refine H.tk (i := 3) (v := .string pp) ?h3 hS ?_
              case h3 => exact (fun w hw => by go_simp)
              try simp only [Act.put, List.setIfInBounds_toArray, List.set_cons_zero, List.set_cons_succ]
              refine H.tk (i := 4) (v := .bool false) ?h4 hS ?_
              case h4 => exact (fun w hw => by go_simp)
              try simp only [Act.put, List.setIfInBounds_toArray, List.set_cons_zero, List.set_cons_succ]
              refine H.tk (i := 5) (v := (.bool false)) (fun w _ => rfl) hS ?_
              try simp only [Act.put, List.setIfInBounds_toArray, List.set_cons_zero, List.set_cons_succ]
              refine H.tk (i := 6) (v := (.bool false)) (fun w _ => rfl) hS ?_
              try simp only [Act.put, List.setIfInBounds_toArray, List.set_cons_zero, List.set_cons_succ]
              refine H.tk (i := 7) (v := .int .i64 (kn : Int)) ?h7 hS ?_
              case h7 => exact (fun w hw => by go_simp)
              try simp only [Act.put, List.setIfInBounds_toArray, List.set_cons_zero, List.set_cons_succ]
              refine H.tk (i := 8) (v := .int .i64 hv) ?h8 hS ?_
              case h8 => exact (fun w hw => by go_simp)
              try simp only [Act.put, List.setIfInBounds_toArray, List.set_cons_zero, List.set_cons_succ]
              refine H.tk (i := 9) (v := .bool false) ?h9 hS ?_
              case h9 => exact (fun w hw => by go_simp)
              try simp only [Act.put, List.setIfInBounds_toArray, List.set_cons_zero, List.set_cons_succ]
              refine H.tk (i := 10) (v := (.bool false)) (fun w _ => rfl) hS ?_
              try simp only [Act.put, List.setIfInBounds_toArray, List.set_cons_zero, List.set_cons_succ]
              refine H.tk (i := 11) (v := (.bool false)) (fun w _ => rfl) hS ?_
              try simp only [Act.put, List.setIfInBounds_toArray, List.set_cons_zero, List.set_cons_succ]
              refine H.tk (i := 12) (v := .int .i64 (kn : Int)) ?h12 hS ?_
              case h12 => exact (fun w hw => by go_simp)
              try simp only [Act.put, List.setIfInBounds_toArray, List.set_cons_zero, List.set_cons_succ]
              refine H.tk (i := 13) (v := .string pp) ?h13 hS ?_
              case h13 => exact (fun w hw => by go_simp)
              try simp only [Act.put, List.setIfInBounds_toArray, List.set_cons_zero, List.set_cons_succ]
              refine H.tk (i := 14) (v := .int .i64 (pp.size : Int)) ?h14 hS ?_
              case h14 => exact (fun w hw => by go_simp)
              try simp only [Act.put, List.setIfInBounds_toArray, List.set_cons_zero, List.set_cons_succ]
              refine H.tk (i := 15) (v := .bool false) ?h15 hS ?_
              case h15 => exact (fun w hw => by go_simp)
              try simp only [Act.put, List.setIfInBounds_toArray, List.set_cons_zero, List.set_cons_succ]
              refine H.tk (i := 16) (v := (.bool false)) (fun w _ => rfl) hS ?_
              try simp only [Act.put, List.setIfInBounds_toArray, List.set_cons_zero, List.set_cons_succ]
              refine H.tk (i := 17) (v := (.bool false)) (fun w _ => rfl) hS ?_
              try simp only [Act.put, List.setIfInBounds_toArray, List.set_cons_zero, List.set_cons_succ]
              refine H.tk (i := 18) (v := .string d) ?h18 hS ?_
              case h18 => exact (fun w hw => by go_simp)
              try simp only [Act.put, List.setIfInBounds_toArray, List.set_cons_zero, List.set_cons_succ]
              refine H.tk (i := 19) (v := .int .i64 (d.size : Int)) ?h19 hS ?_
              case h19 => exact (fun w hw => by go_simp)
              try simp only [Act.put, List.setIfInBounds_toArray, List.set_cons_zero, List.set_cons_succ]
              refine H.tk (i := 20) (v := .int .i64 (kn : Int)) ?h20 hS ?_
              case h20 => exact (fun w hw => by go_simp)
              try simp only [Act.put, List.setIfInBounds_toArray, List.set_cons_zero, List.set_cons_succ]
              refine H.tk (i := 21) (v := .int .i64 (10 + (kn : Int))) ?h21 hS ?_
              case h21 => exact (fun w hw => by go_simp; rw [HSL.out])
              try simp only [Act.put, List.setIfInBounds_toArray, List.set_cons_zero, List.set_cons_succ]
              refine H.tk (i := 22) (v := .bool false) ?h22 hS ?_
              case h22 => exact (fun w hw => by go_simp)
              try simp only [Act.put, List.setIfInBounds_toArray, List.set_cons_zero, List.set_cons_succ]
              refine H.tk (i := 23) (v := (.bool false)) (fun w _ => rfl) hS ?_
              try simp only [Act.put, List.setIfInBounds_toArray, List.set_cons_zero, List.set_cons_succ]
              refine H.tk (i := 24) (v := (.bool false)) (fun w _ => rfl) hS ?_
              try simp only [Act.put, List.setIfInBounds_toArray, List.set_cons_zero, List.set_cons_succ]
              refine H.tk (i := 25) (v := .string d) ?h25 hS ?_
              case h25 => exact (fun w hw => by go_simp)
              try simp only [Act.put, List.setIfInBounds_toArray, List.set_cons_zero, List.set_cons_succ]
              refine H.tk (i := 26) (v := .int .i64 (kn : Int)) ?h26 hS ?_
              case h26 => exact (fun w hw => by go_simp)
              try simp only [Act.put, List.setIfInBounds_toArray, List.set_cons_zero, List.set_cons_succ]
              refine H.tk (i := 27) (v := .int .i64 (10 + (kn : Int))) ?h27 hS ?_
              case h27 => exact (fun w hw => by go_simp; rw [HSL.out])
              try simp only [Act.put, List.setIfInBounds_toArray, List.set_cons_zero, List.set_cons_succ]
              refine H.tk (i := 28) (v := .string da) ?h28 hS ?_
              case h28 => exact (fun w hw => by go_simp)
              try simp only [Act.put, List.setIfInBounds_toArray, List.set_cons_zero, List.set_cons_succ]
              refine H.tk (i := 29) (v := .string pp) ?h29 hS ?_
              case h29 => exact (fun w hw => by go_simp)
              try simp only [Act.put, List.setIfInBounds_toArray, List.set_cons_zero, List.set_cons_succ]
              refine H.tk (i := 30) (v := .int .i64 (kn : Int)) ?h30 hS ?_
              case h30 => exact (fun w hw => by go_simp)
              try simp only [Act.put, List.setIfInBounds_toArray, List.set_cons_zero, List.set_cons_succ]
              refine H.tk (i := 31) (v := .string pa) ?h31 hS ?_
              case h31 => exact (fun w hw => by go_simp)
              try simp only [Act.put, List.setIfInBounds_toArray, List.set_cons_zero, List.set_cons_succ]
              refine H.tk (i := 32) (v := .bool true) ?h32 hS ?_
              case h32 => exact (fun w hw => by go_simp)
              try simp only [Act.put, List.setIfInBounds_toArray, List.set_cons_zero, List.set_cons_succ]
              refine H.tk (i := 33) (v := (.bool true)) (fun w _ => rfl) hS ?_
              try simp only [Act.put, List.setIfInBounds_toArray, List.set_cons_zero, List.set_cons_succ]
              refine wpAnyH_done (by kernel_rfl) ?_ _
              go_wp2_with fail
              go_meet
              exact ⟨by rw [HD.out]; rfl, hS⟩
            · rw [hq] at HG
              have HD := HG
              have hq2 : (da.toList != pa.toList) = false := by rw [bne, hq]; rfl
              refine wp_region_held_drew (S := fun W => Below V2.heap.size V2 W) (by kernel_rfl) (Below.refl _ V2).drew (fun hS => ?_)
              generalize V2.drew = X0 at *
              refine H.tk (i := 0) (v := .int .i64 0) ?h0 hS ?_
              case h0 => exact (fun w hw => by go_simp)
              try simp only [Act.put, List.setIfInBounds_toArray, List.set_cons_zero, List.set_cons_succ]
              refine H.tk (i := 1) (v := .bool false) ?h1 hS ?_
              case h1 => exact (fun w hw => by go_simp)
              try simp only [Act.put, List.setIfInBounds_toArray, List.set_cons_zero, List.set_cons_succ]
              refine H.tk (i := 2) (v := (.bool false)) (fun w _ => rfl) hS ?_
              try simp only [Act.put, List.setIfInBounds_toArray, List.set_cons_zero, List.set_cons_succ]
              refine H.tk (i := 3) (v := .string pp) ?h3 hS ?_
              case h3 => exact (fun w hw => by go_simp)
              try simp only [Act.put, List.setIfInBounds_toArray, List.set_cons_zero, List.set_cons_succ]
              refine H.tk (i := 4) (v := .bool false) ?h4 hS ?_
              case h4 => exact (fun w hw => by go_simp)
              try simp only [Act.put, List.setIfInBounds_toArray, List.set_cons_zero, List.set_cons_succ]
              refine H.tk (i := 5) (v := (.bool false)) (fun w _ => rfl) hS ?_
              try simp only [Act.put, List.setIfInBounds_toArray, List.set_cons_zero, List.set_cons_succ]
              refine H.tk (i := 6) (v := (.bool false)) (fun w _ => rfl) hS ?_
              try simp only [Act.put, List.setIfInBounds_toArray, List.set_cons_zero, List.set_cons_succ]
              refine H.tk (i := 7) (v := .int .i64 (kn : Int)) ?h7 hS ?_
              case h7 => exact (fun w hw => by go_simp)
              try simp only [Act.put, List.setIfInBounds_toArray, List.set_cons_zero, List.set_cons_succ]
              refine H.tk (i := 8) (v := .int .i64 hv) ?h8 hS ?_
              case h8 => exact (fun w hw => by go_simp)
              try simp only [Act.put, List.setIfInBounds_toArray, List.set_cons_zero, List.set_cons_succ]
              refine H.tk (i := 9) (v := .bool false) ?h9 hS ?_
              case h9 => exact (fun w hw => by go_simp)
              try simp only [Act.put, List.setIfInBounds_toArray, List.set_cons_zero, List.set_cons_succ]
              refine H.tk (i := 10) (v := (.bool false)) (fun w _ => rfl) hS ?_
              try simp only [Act.put, List.setIfInBounds_toArray, List.set_cons_zero, List.set_cons_succ]
              refine H.tk (i := 11) (v := (.bool false)) (fun w _ => rfl) hS ?_
              try simp only [Act.put, List.setIfInBounds_toArray, List.set_cons_zero, List.set_cons_succ]
              refine H.tk (i := 12) (v := .int .i64 (kn : Int)) ?h12 hS ?_
              case h12 => exact (fun w hw => by go_simp)
              try simp only [Act.put, List.setIfInBounds_toArray, List.set_cons_zero, List.set_cons_succ]
              refine H.tk (i := 13) (v := .string pp) ?h13 hS ?_
              case h13 => exact (fun w hw => by go_simp)
              try simp only [Act.put, List.setIfInBounds_toArray, List.set_cons_zero, List.set_cons_succ]
              refine H.tk (i := 14) (v := .int .i64 (pp.size : Int)) ?h14 hS ?_
              case h14 => exact (fun w hw => by go_simp)
              try simp only [Act.put, List.setIfInBounds_toArray, List.set_cons_zero, List.set_cons_succ]
              refine H.tk (i := 15) (v := .bool false) ?h15 hS ?_
              case h15 => exact (fun w hw => by go_simp)
              try simp only [Act.put, List.setIfInBounds_toArray, List.set_cons_zero, List.set_cons_succ]
              refine H.tk (i := 16) (v := (.bool false)) (fun w _ => rfl) hS ?_
              try simp only [Act.put, List.setIfInBounds_toArray, List.set_cons_zero, List.set_cons_succ]
              refine H.tk (i := 17) (v := (.bool false)) (fun w _ => rfl) hS ?_
              try simp only [Act.put, List.setIfInBounds_toArray, List.set_cons_zero, List.set_cons_succ]
              refine H.tk (i := 18) (v := .string d) ?h18 hS ?_
              case h18 => exact (fun w hw => by go_simp)
              try simp only [Act.put, List.setIfInBounds_toArray, List.set_cons_zero, List.set_cons_succ]
              refine H.tk (i := 19) (v := .int .i64 (d.size : Int)) ?h19 hS ?_
              case h19 => exact (fun w hw => by go_simp)
              try simp only [Act.put, List.setIfInBounds_toArray, List.set_cons_zero, List.set_cons_succ]
              refine H.tk (i := 20) (v := .int .i64 (kn : Int)) ?h20 hS ?_
              case h20 => exact (fun w hw => by go_simp)
              try simp only [Act.put, List.setIfInBounds_toArray, List.set_cons_zero, List.set_cons_succ]
              refine H.tk (i := 21) (v := .int .i64 (10 + (kn : Int))) ?h21 hS ?_
              case h21 => exact (fun w hw => by go_simp; rw [HSL.out])
              try simp only [Act.put, List.setIfInBounds_toArray, List.set_cons_zero, List.set_cons_succ]
              refine H.tk (i := 22) (v := .bool false) ?h22 hS ?_
              case h22 => exact (fun w hw => by go_simp)
              try simp only [Act.put, List.setIfInBounds_toArray, List.set_cons_zero, List.set_cons_succ]
              refine H.tk (i := 23) (v := (.bool false)) (fun w _ => rfl) hS ?_
              try simp only [Act.put, List.setIfInBounds_toArray, List.set_cons_zero, List.set_cons_succ]
              refine H.tk (i := 24) (v := (.bool false)) (fun w _ => rfl) hS ?_
              try simp only [Act.put, List.setIfInBounds_toArray, List.set_cons_zero, List.set_cons_succ]
              refine H.tk (i := 25) (v := .string d) ?h25 hS ?_
              case h25 => exact (fun w hw => by go_simp)
              try simp only [Act.put, List.setIfInBounds_toArray, List.set_cons_zero, List.set_cons_succ]
              refine H.tk (i := 26) (v := .int .i64 (kn : Int)) ?h26 hS ?_
              case h26 => exact (fun w hw => by go_simp)
              try simp only [Act.put, List.setIfInBounds_toArray, List.set_cons_zero, List.set_cons_succ]
              refine H.tk (i := 27) (v := .int .i64 (10 + (kn : Int))) ?h27 hS ?_
              case h27 => exact (fun w hw => by go_simp; rw [HSL.out])
              try simp only [Act.put, List.setIfInBounds_toArray, List.set_cons_zero, List.set_cons_succ]
              refine H.tk (i := 28) (v := .string da) ?h28 hS ?_
              case h28 => exact (fun w hw => by go_simp)
              try simp only [Act.put, List.setIfInBounds_toArray, List.set_cons_zero, List.set_cons_succ]
              refine H.tk (i := 29) (v := .string pp) ?h29 hS ?_
              case h29 => exact (fun w hw => by go_simp)
              try simp only [Act.put, List.setIfInBounds_toArray, List.set_cons_zero, List.set_cons_succ]
              refine H.tk (i := 30) (v := .int .i64 (kn : Int)) ?h30 hS ?_
              case h30 => exact (fun w hw => by go_simp)
              try simp only [Act.put, List.setIfInBounds_toArray, List.set_cons_zero, List.set_cons_succ]
              refine H.tk (i := 31) (v := .string pa) ?h31 hS ?_
              case h31 => exact (fun w hw => by go_simp)
              try simp only [Act.put, List.setIfInBounds_toArray, List.set_cons_zero, List.set_cons_succ]
              refine H.tk (i := 32) (v := .bool false) ?h32 hS ?_
              case h32 => exact (fun w hw => by go_simp)
              try simp only [Act.put, List.setIfInBounds_toArray, List.set_cons_zero, List.set_cons_succ]
              refine H.tk (i := 33) (v := (.bool false)) (fun w _ => rfl) hS ?_
              try simp only [Act.put, List.setIfInBounds_toArray, List.set_cons_zero, List.set_cons_succ]
              refine wpAnyH_done (by kernel_rfl) ?_ _
              go_wp2_with fail
              go_meet
              exact ⟨by rw [HD.out]; rfl, hS⟩
        case rest =>
          obtain ⟨rfl, hb⟩ := hcut
          have S0 := Lib.hid (S0.out.below hb)
          have HT := Lib.hid (HT.out.below hb)
          have XS1 := Lib.hid (XS1.out.below hb)
          have HM1 := Lib.hid (HM1.out.below hb)
          have HB := Lib.hid (bcall HB.out hb)
          clear hb n1 n2 hsl
          generalize wc = V3 at *
          cases hg : goodB q.2.2 pp kn hv d
          · rw [show (!false) = true from rfl]
            clear htm vk vb hpp
            go_wp2_with fail
            refine (awake_any _ HT.out).mono ?_
            rintro r w8 ⟨rfl, hb⟩
            have HB := Lib.hid (bcall HB.out hb)
            clear hb
            go_wp2
            go_ret
            exact ⟨rfl, HB.out⟩
          rw [show (!true) = false from rfl]
          unfold goodB at hg
          simp only [Bool.and_eq_true, decide_eq_true_eq, Bool.not_eq_true', decide_eq_false_iff_not, beq_iff_eq] at hg
          obtain ⟨he, hz, hh, hp, hd, heq⟩ := hg
          rw [ByteArray.toList_eq, ByteArray.toList_eq, ext_list, ext_list, List.drop_zero, hpp, show 10 + kn - 10 = kn by omega, Nat.sub_zero] at heq
          have hps := HPS.out
          have hpf0 : ¬ pf.size = 0 := by omega
          have hcount : kn ≤ countN k (bt d 2) := by
            have h2 := HHV.out
            have h3 := bt_nn d 2
            rcases hpz with h | h
            · exact absurd h hpf0
            have h4 : baseN k ≤ pf.size := by omega
            unfold countN leastN
            omega
          have s3 := sl_h d 3 3 rfl (by omega)
          have s4 := sl_m d 4 10 4 10 rfl rfl (by omega) (by omega)
          have s5 := sl_l d (10 + (kn : Int)) (10 + kn) d.size (by omega) (by omega) rfl
          have z1 : (d.extract 0 3).size = 3 := by rw [ext_size _ _ _ (by omega)]
          have z2 : (d.extract 4 10).size = 6 := by rw [ext_size _ _ _ (by omega)]
          have z3 : (d.extract (10 + kn) d.size).size ≤ 255 := by simp; omega
          have hform : (d.extract 0 3 ++ ⟨#[UInt8.ofNat kn]⟩ ++ d.extract 4 10 ++ d.extract (10 + kn) d.size).data.toList = d.data.toList.take 3 ++ (UInt8.ofNat kn :: ((d.data.toList.drop 4).take 6 ++ d.data.toList.drop (10 + kn))) := by
            rw [ByteArray.data_append, ByteArray.data_append, ByteArray.data_append, Array.toList_append, Array.toList_append, Array.toList_append, ext_list, ext_list, ext_list, List.drop_zero, Nat.sub_zero]
            rw [show (d.data.toList.drop (10 + kn)).take (d.size - (10 + kn)) = d.data.toList.drop (10 + kn) from List.take_of_length_le (by rw [List.length_drop, size_list]; exact Nat.le_refl _)]
            rw [List.append_assoc, List.append_assoc]
            rfl
          have hdq := HOM.out _ he hpf0 hcount hd heq hform
          have hb1 : (⟨#[UInt8.ofNat kn]⟩ : ByteArray).size = 1 := rfl
          have hcat1 : ∀ W : World, (Op.stringOp .add (d.extract 0 3) ⟨#[UInt8.ofNat kn]⟩).run Tryd.prog W = .ok (.string (d.extract 0 3 ++ ⟨#[UInt8.ofNat kn]⟩)) W := fun W => run_string_add_sum W _ _ (by rw [z1, hb1]; decide)
          have y1z : (d.extract 0 3 ++ ⟨#[UInt8.ofNat kn]⟩).size = 4 := by rw [ByteArray.size_append, z1]; rfl
          have hcat2 : ∀ W : World, (Op.stringOp .add (d.extract 0 3 ++ ⟨#[UInt8.ofNat kn]⟩) (d.extract 4 10)).run Tryd.prog W = .ok (.string (d.extract 0 3 ++ ⟨#[UInt8.ofNat kn]⟩ ++ d.extract 4 10)) W := fun W => run_string_add_sum W _ _ (by rw [y1z, z2]; decide)
          have y2z : (d.extract 0 3 ++ ⟨#[UInt8.ofNat kn]⟩ ++ d.extract 4 10).size = 10 := by rw [ByteArray.size_append, y1z, z2]
          have hcat3 : ∀ W : World, (Op.stringOp .add (d.extract 0 3 ++ ⟨#[UInt8.ofNat kn]⟩ ++ d.extract 4 10) (d.extract (10 + kn) d.size)).run Tryd.prog W = .ok (.string (d.extract 0 3 ++ ⟨#[UInt8.ofNat kn]⟩ ++ d.extract 4 10 ++ d.extract (10 + kn) d.size)) W := fun W => run_string_add_sum W _ _ (by rw [y2z]; omega)
          have hdd : (d.extract 0 3 ++ ⟨#[UInt8.ofNat kn]⟩ ++ d.extract 4 10 ++ d.extract (10 + kn) d.size).size ≤ 100000 := by rw [ByteArray.size_append, y2z]; omega
          have cvb := fun (W : World) (g : Nat) (h : Bk 5 W g #[.int .u8 (kn : Int)]) => conv_n kn hk16 W g h
          generalize d.extract 0 3 ++ ⟨#[UInt8.ofNat kn]⟩ ++ d.extract 4 10 ++ d.extract (10 + kn) d.size = dd at *
          generalize d.extract 0 3 ++ ⟨#[UInt8.ofNat kn]⟩ ++ d.extract 4 10 = x2 at *
          generalize d.extract 0 3 ++ ⟨#[UInt8.ofNat kn]⟩ = x1 at *
          generalize d.extract 0 3 = y1 at *
          generalize d.extract 4 10 = y2 at *
          generalize d.extract (10 + kn) d.size = y3 at *
          generalize (⟨#[UInt8.ofNat kn]⟩ : ByteArray) = bb at *
          have P2 := P2.out dd hdd
          rw [hdq] at P2
          have P2 := Lib.hid P2
          have CV := Lib.hid cvb
          have HE := Lib.hid he
          clear hform heq hdq hcount hps hpf0 z1 z2 z3 y1z y2z hb1 hdd HOM HPS HHV he hz hh hp hd cvb hpp
          go_upto_region 12 with fail
          go_cut [14, 15, 16] (fun m1 m2 m3 wx => ∃ (g : Nat) (qa : Option Addr) (qk : Nat) (ls : List M), m1 = .pointer (some ⟨g, 0, none⟩) ∧ m2 = .slice qa ls.length qk ∧ m3 = .int .i64 q.2.2 ∧ PlL ls q.2.1 ∧ MRow wx qa ls ∧ Bk 27 wx g q.1.cells ∧ V3.heap.size ≤ g ∧ Below V3.heap.size V3 wx)
          case first =>
            as_aux_lemma =>
              refine wp_region_held_drew (S := fun W => Below V3.heap.size V3 W) (by kernel_rfl) (Below.refl _ V3).drew (fun hS => ?_)
              generalize V3.drew = X0 at *
              refine H.tk (i := 0) (v := .agg c.cells) ?h0x1 hS ?_
              case h0x1 => exact (fun w hw => run_loadK shX (x := .tmp 3) rfl rfl (S0.out.below hw) rfl)
              try simp only [Act.put, List.setIfInBounds_toArray, List.set_cons_zero, List.set_cons_succ]
              refine H.tk (i := 1) (v := .string d) ?h1x2 hS ?_
              case h1x2 => exact (fun w hw => by go_simp)
              try simp only [Act.put, List.setIfInBounds_toArray, List.set_cons_zero, List.set_cons_succ]
              refine H.tk (i := 2) (v := .string y1) ?h2x3 hS ?_
              case h2x3 => exact (fun w hw => by go_simp)
              try simp only [Act.put, List.setIfInBounds_toArray, List.set_cons_zero, List.set_cons_succ]
              refine H.tk (i := 3) (v := .int .i64 (kn : Int)) ?h3x4 hS ?_
              case h3x4 => exact (fun w hw => by go_simp)
              try simp only [Act.put, List.setIfInBounds_toArray, List.set_cons_zero, List.set_cons_succ]
              refine H.tk (i := 4) (v := .int .u8 (kn : Int)) ?h4x5 hS ?_
              case h4x5 => exact (fun w hw => by go_simp)
              try simp only [Act.put, List.setIfInBounds_toArray, List.set_cons_zero, List.set_cons_succ]
              refine H.tk (i := 8) (v := .string d) ?h8x6 hS ?_
              case h8x6 => exact (fun w hw => by go_simp)
              try simp only [Act.put, List.setIfInBounds_toArray, List.set_cons_zero, List.set_cons_succ]
              refine H.tk (i := 9) (v := .string y2) ?h9x7 hS ?_
              case h9x7 => exact (fun w hw => by go_simp)
              try simp only [Act.put, List.setIfInBounds_toArray, List.set_cons_zero, List.set_cons_succ]
              refine H.tk (i := 11) (v := .string d) ?h11x8 hS ?_
              case h11x8 => exact (fun w hw => by go_simp)
              try simp only [Act.put, List.setIfInBounds_toArray, List.set_cons_zero, List.set_cons_succ]
              refine H.tk (i := 12) (v := .int .i64 (kn : Int)) ?h12x9 hS ?_
              case h12x9 => exact (fun w hw => by go_simp)
              try simp only [Act.put, List.setIfInBounds_toArray, List.set_cons_zero, List.set_cons_succ]
              refine H.tk (i := 13) (v := .int .i64 (10 + (kn : Int))) ?h13x10 hS ?_
              case h13x10 => exact (fun w hw => by go_simp; rw [HSL.out])
              try simp only [Act.put, List.setIfInBounds_toArray, List.set_cons_zero, List.set_cons_succ]
              refine H.tk (i := 14) (v := .string y3) ?h14x11 hS ?_
              case h14x11 => exact (fun w hw => by go_simp)
              try simp only [Act.put, List.setIfInBounds_toArray, List.set_cons_zero, List.set_cons_succ]
              refine H.two (i := 5) (j := 22) (by simp only [List.getElem?_toArray, List.getElem?_cons_succ, List.getElem?_cons_zero]; rfl) (by kernel_rfl) (by simp only [List.getElem?_toArray, List.getElem?_cons_succ, List.getElem?_cons_zero]; rfl) (by kernel_rfl) (by kernel_rfl) (fun K hK => ?wa12) (fun K hK => ?wb12)
              case wa12 =>
                refine wp_valW rfl (ex_bsO (c := (kn : Int)) rfl rfl) ?_
                refine hK.out _ _ (balloc hS (.cells #[.int .u8 (kn : Int)] 5)) ?_
                have HK := Lib.hid (Bk.Bk.new 5 X0 #[.int .u8 (kn : Int)])
                clear hK K
                have hS' := balloc hS (.cells #[.int .u8 (kn : Int)] 5)
                clear hS
                have hS := hS'
                clear hS'
                generalize X0.alloc (.cells #[.int .u8 (kn : Int)] 5) = X1 at *
                generalize X0.heap.size = gb at *
                try simp only [Act.put, List.setIfInBounds_toArray, List.set_cons_zero, List.set_cons_succ]
                refine H.two (i := 6) (j := 22) (by simp only [List.getElem?_toArray, List.getElem?_cons_succ, List.getElem?_cons_zero]; rfl) (by kernel_rfl) (by simp only [List.getElem?_toArray, List.getElem?_cons_succ, List.getElem?_cons_zero]; rfl) (by kernel_rfl) (by kernel_rfl) (fun K hK => ?wa13) (fun K hK => ?wb13)
                case wa13 =>
                  refine wp_valW rfl (ex_conv (x := .tmp 133) (v := .slice (some ⟨gb, 0, none⟩) 1 1) rfl rfl (CV.out _ _ HK.out)) ?_
                  refine hK.out _ _ hS ?_
                  clear hK K
                  try simp only [Act.put, List.setIfInBounds_toArray, List.set_cons_zero, List.set_cons_succ]
                  refine H.tk (i := 7) (v := .string x1) ?h7x14 hS ?_
                  case h7x14 => exact (fun w hw => by go_simp)
                  try simp only [Act.put, List.setIfInBounds_toArray, List.set_cons_zero, List.set_cons_succ]
                  refine H.tk (i := 10) (v := .string x2) ?h10x15 hS ?_
                  case h10x15 => exact (fun w hw => by go_simp)
                  try simp only [Act.put, List.setIfInBounds_toArray, List.set_cons_zero, List.set_cons_succ]
                  refine H.tk (i := 15) (v := .string dd) ?h15x16 hS ?_
                  case h15x16 => exact (fun w hw => by go_simp)
                  try simp only [Act.put, List.setIfInBounds_toArray, List.set_cons_zero, List.set_cons_succ]
                  refine H.tk (i := 16) (v := .agg (cellsT (0, (dd, 8)))) ?h16x17 hS ?_
                  case h16x17 => exact (fun w hw => ex_built rfl (by kernel_rfl))
                  try simp only [Act.put, List.setIfInBounds_toArray, List.set_cons_zero, List.set_cons_succ]
                  refine H.two (i := 17) (j := 22) (by simp only [List.getElem?_toArray, List.getElem?_cons_succ, List.getElem?_cons_zero]; rfl) (by kernel_rfl) (by simp only [List.getElem?_toArray, List.getElem?_cons_succ, List.getElem?_cons_zero]; rfl) (by kernel_rfl) (by kernel_rfl) (fun K hK => ?wa18) (fun K hK => ?wb18)
                  case wa18 =>
                    go_simp
                    refine (P2.out _ (HT.out.below hS)).mono ?_
                    rintro e X2 ⟨qa, qk, ls, rfl, hp, hm, hb⟩
                    refine hK.out _ _ (bcall hS hb) ?_
                    clear hK K
                    have hS' := bcall hS hb
                    clear hS
                    have hS := hS'
                    clear hS'
                    have hz1 := hS.size
                    have HP := Lib.hid hp
                    have HM := Lib.hid hm
                    clear hb hm hp
                    try simp only [Act.put, List.setIfInBounds_toArray, List.set_cons_zero, List.set_cons_succ]
                    refine H.tk (i := 18) (v := .tuple #[.agg q.1.cells, .slice qa ls.length qk, .int .i64 q.2.2]) ?h18x19 hS ?_
                    case h18x19 => exact (fun w hw => by go_simp)
                    try simp only [Act.put, List.setIfInBounds_toArray, List.set_cons_zero, List.set_cons_succ]
                    refine H.tk (i := 19) (v := .agg q.1.cells) ?h19x20 hS ?_
                    case h19x20 => exact (fun w hw => by go_simp)
                    try simp only [Act.put, List.setIfInBounds_toArray, List.set_cons_zero, List.set_cons_succ]
                    refine H.tk (i := 20) (v := .slice qa ls.length qk) ?h20x21 hS ?_
                    case h20x21 => exact (fun w hw => by go_simp)
                    try simp only [Act.put, List.setIfInBounds_toArray, List.set_cons_zero, List.set_cons_succ]
                    refine H.tk (i := 21) (v := .int .i64 q.2.2) ?h21x22 hS ?_
                    case h21x22 => exact (fun w hw => by go_simp)
                    try simp only [Act.put, List.setIfInBounds_toArray, List.set_cons_zero, List.set_cons_succ]
                    refine H.one (i := 22) (by simp only [List.getElem?_toArray, List.getElem?_cons_succ, List.getElem?_cons_zero]; rfl) (by kernel_rfl) (by kernel_rfl) (fun K hK => ?_)
                    go_simp
                    refine hK.out _ _ (balloc hS (.cells Kx.zero.cells 27)) ?_
                    clear hK K
                    change wpAnyH _ _ _ _ _ _ _ _ (X2.alloc (.cells Kx.zero.cells 27))
                    have hS1 := Lib.hid hS
                    have hS' := balloc hS (.cells Kx.zero.cells 27)
                    clear hS
                    have hS := hS'
                    clear hS'
                    try simp only [Act.put, List.setIfInBounds_toArray, List.set_cons_zero, List.set_cons_succ]
                    refine H.one (i := 23) (by simp only [List.getElem?_toArray, List.getElem?_cons_succ, List.getElem?_cons_zero]; rfl) (by kernel_rfl) (by kernel_rfl) (fun K hK => ?_)
                    refine wp_store_row 27 _ _ rfl X2.heap.size q.1.cells rfl rfl 27 Kx.zero.cells (heap_alloc_new _ _) infoX rfl (oneX _) ?_
                    rw [World.setRow_alloc_new]
                    refine hK.out _ _ (balloc hS1.out (.cells q.1.cells 27)) ?_
                    clear hK K hS
                    have hS := balloc hS1.out (.cells q.1.cells 27)
                    have G0 := Lib.hid (Bk.Bk.new 27 X2 q.1.cells)
                    have HM := Lib.hid (HM.out.row.below (balloc (Below.refl _ X2) (.cells q.1.cells 27)))
                    generalize X2.alloc (.cells q.1.cells 27) = Y at *
                    clear hS1
                    try simp only [Act.put]
                    refine H.tk (i := 24) (v := .slice qa ls.length qk) ?h24x23 hS ?_
                    case h24x23 => exact (fun w hw => by go_simp)
                    try simp only [Act.put, List.setIfInBounds_toArray, List.set_cons_zero, List.set_cons_succ]
                    refine H.tk (i := 25) (v := .int .i64 q.2.2) ?h25x24 hS ?_
                    case h25x24 => exact (fun w hw => by go_simp)
                    try simp only [Act.put, List.setIfInBounds_toArray, List.set_cons_zero, List.set_cons_succ]
                    refine wpAnyH_done (by kernel_rfl) ?_ _
                    go_wp2_with fail
                    go_meet
                    exact ⟨X2.heap.size, qa, qk, ls, rfl, rfl, rfl, HP.out, HM.out, G0.out, hz1, hS⟩
                  case wb18 =>
                    go_simp
                    refine hK.out _ _ (balloc hS (.cells Kx.zero.cells 27)) ?_
                    clear hK K
                    change wpAnyH _ _ _ _ _ _ _ _ (X1.alloc (.cells Kx.zero.cells 27))
                    have hz0 := hS.size
                    have G0 := Lib.hid (Bk.Bk.new 27 X1 Kx.zero.cells)
                    have hS' := balloc hS (.cells Kx.zero.cells 27)
                    clear hS
                    have hS := hS'
                    clear hS'
                    have HK := Lib.hid (HK.out.old (.cells Kx.zero.cells 27))
                    generalize X1.alloc (.cells Kx.zero.cells 27) = X2 at *
                    generalize X1.heap.size = g at *
                    try simp only [Act.put, List.setIfInBounds_toArray, List.set_cons_zero, List.set_cons_succ]
                    refine H.one (i := 17) (by simp only [List.getElem?_toArray, List.getElem?_cons_succ, List.getElem?_cons_zero]; rfl) (by kernel_rfl) (by kernel_rfl) (fun K hK => ?_)
                    go_simp
                    refine (P2.out _ (HT.out.below hS)).mono ?_
                    rintro e X3 ⟨qa, qk, ls, rfl, hp, hm, hb⟩
                    refine hK.out _ _ (bcall hS hb) ?_
                    clear hK K
                    have hS' := bcall hS hb
                    have hgY := G0.out.lt
                    have G0 := Lib.hid (G0.out.below hb)
                    clear hS
                    have hS := hS'
                    clear hS'
                    have hz1 := hS.size
                    have HP := Lib.hid hp
                    have HM := Lib.hid hm
                    clear hb hm hp
                    try simp only [Act.put, List.setIfInBounds_toArray, List.set_cons_zero, List.set_cons_succ]
                    refine H.tk (i := 18) (v := .tuple #[.agg q.1.cells, .slice qa ls.length qk, .int .i64 q.2.2]) ?h18x25 hS ?_
                    case h18x25 => exact (fun w hw => by go_simp)
                    try simp only [Act.put, List.setIfInBounds_toArray, List.set_cons_zero, List.set_cons_succ]
                    refine H.tk (i := 19) (v := .agg q.1.cells) ?h19x26 hS ?_
                    case h19x26 => exact (fun w hw => by go_simp)
                    try simp only [Act.put, List.setIfInBounds_toArray, List.set_cons_zero, List.set_cons_succ]
                    refine H.tk (i := 20) (v := .slice qa ls.length qk) ?h20x27 hS ?_
                    case h20x27 => exact (fun w hw => by go_simp)
                    try simp only [Act.put, List.setIfInBounds_toArray, List.set_cons_zero, List.set_cons_succ]
                    refine H.tk (i := 21) (v := .int .i64 q.2.2) ?h21x28 hS ?_
                    case h21x28 => exact (fun w hw => by go_simp)
                    try simp only [Act.put, List.setIfInBounds_toArray, List.set_cons_zero, List.set_cons_succ]
                    refine H.one (i := 23) (by simp only [List.getElem?_toArray, List.getElem?_cons_succ, List.getElem?_cons_zero]; rfl) (by kernel_rfl) (by kernel_rfl) (fun K hK => ?_)
                    refine wp_store_row 27 _ _ rfl g q.1.cells rfl rfl 27 Kx.zero.cells G0.out infoX rfl (oneX _) ?_
                    refine hK.out _ _ (Box.below_setRow hS hz0 _) ?_
                    clear hK K
                    have hS' := Box.below_setRow hS hz0 q.1.cells
                    clear hS
                    have hS := hS'
                    clear hS'
                    have G0 := Lib.hid (G0.out.put q.1.cells)
                    have HM := Lib.hid (HM.out.under hgY q.1.cells).row
                    generalize X3.setRow g q.1.cells = Y at *
                    try simp only [Act.put]
                    refine H.tk (i := 24) (v := .slice qa ls.length qk) ?h24x29 hS ?_
                    case h24x29 => exact (fun w hw => by go_simp)
                    try simp only [Act.put, List.setIfInBounds_toArray, List.set_cons_zero, List.set_cons_succ]
                    refine H.tk (i := 25) (v := .int .i64 q.2.2) ?h25x30 hS ?_
                    case h25x30 => exact (fun w hw => by go_simp)
                    try simp only [Act.put, List.setIfInBounds_toArray, List.set_cons_zero, List.set_cons_succ]
                    refine wpAnyH_done (by kernel_rfl) ?_ _
                    go_wp2_with fail
                    go_meet
                    exact ⟨g, qa, qk, ls, rfl, rfl, rfl, HP.out, HM.out, G0.out, hz0, hS⟩
                case wb13 =>
                  go_simp
                  refine hK.out _ _ (balloc hS (.cells Kx.zero.cells 27)) ?_
                  clear hK K
                  change wpAnyH _ _ _ _ _ _ _ _ (X1.alloc (.cells Kx.zero.cells 27))
                  have hz0 := hS.size
                  have G0 := Lib.hid (Bk.Bk.new 27 X1 Kx.zero.cells)
                  have hS' := balloc hS (.cells Kx.zero.cells 27)
                  clear hS
                  have hS := hS'
                  clear hS'
                  have HK := Lib.hid (HK.out.old (.cells Kx.zero.cells 27))
                  generalize X1.alloc (.cells Kx.zero.cells 27) = X2 at *
                  generalize X1.heap.size = g at *
                  try simp only [Act.put, List.setIfInBounds_toArray, List.set_cons_zero, List.set_cons_succ]
                  refine H.one (i := 6) (by simp only [List.getElem?_toArray, List.getElem?_cons_succ, List.getElem?_cons_zero]; rfl) (by kernel_rfl) (by kernel_rfl) (fun K hK => ?_)
                  refine wp_valW rfl (ex_conv (x := .tmp 133) (v := .slice (some ⟨gb, 0, none⟩) 1 1) rfl rfl (CV.out _ _ HK.out)) ?_
                  refine hK.out _ _ hS ?_
                  clear hK K
                  try simp only [Act.put, List.setIfInBounds_toArray, List.set_cons_zero, List.set_cons_succ]
                  refine H.tk (i := 7) (v := .string x1) ?h7x31 hS ?_
                  case h7x31 => exact (fun w hw => by go_simp)
                  try simp only [Act.put, List.setIfInBounds_toArray, List.set_cons_zero, List.set_cons_succ]
                  refine H.tk (i := 10) (v := .string x2) ?h10x32 hS ?_
                  case h10x32 => exact (fun w hw => by go_simp)
                  try simp only [Act.put, List.setIfInBounds_toArray, List.set_cons_zero, List.set_cons_succ]
                  refine H.tk (i := 15) (v := .string dd) ?h15x33 hS ?_
                  case h15x33 => exact (fun w hw => by go_simp)
                  try simp only [Act.put, List.setIfInBounds_toArray, List.set_cons_zero, List.set_cons_succ]
                  refine H.tk (i := 16) (v := .agg (cellsT (0, (dd, 8)))) ?h16x34 hS ?_
                  case h16x34 => exact (fun w hw => ex_built rfl (by kernel_rfl))
                  try simp only [Act.put, List.setIfInBounds_toArray, List.set_cons_zero, List.set_cons_succ]
                  refine H.one (i := 17) (by simp only [List.getElem?_toArray, List.getElem?_cons_succ, List.getElem?_cons_zero]; rfl) (by kernel_rfl) (by kernel_rfl) (fun K hK => ?_)
                  go_simp
                  refine (P2.out _ (HT.out.below hS)).mono ?_
                  rintro e X3 ⟨qa, qk, ls, rfl, hp, hm, hb⟩
                  refine hK.out _ _ (bcall hS hb) ?_
                  clear hK K
                  have hS' := bcall hS hb
                  have hgY := G0.out.lt
                  have G0 := Lib.hid (G0.out.below hb)
                  clear hS
                  have hS := hS'
                  clear hS'
                  have hz1 := hS.size
                  have HP := Lib.hid hp
                  have HM := Lib.hid hm
                  clear hb hm hp
                  try simp only [Act.put, List.setIfInBounds_toArray, List.set_cons_zero, List.set_cons_succ]
                  refine H.tk (i := 18) (v := .tuple #[.agg q.1.cells, .slice qa ls.length qk, .int .i64 q.2.2]) ?h18x35 hS ?_
                  case h18x35 => exact (fun w hw => by go_simp)
                  try simp only [Act.put, List.setIfInBounds_toArray, List.set_cons_zero, List.set_cons_succ]
                  refine H.tk (i := 19) (v := .agg q.1.cells) ?h19x36 hS ?_
                  case h19x36 => exact (fun w hw => by go_simp)
                  try simp only [Act.put, List.setIfInBounds_toArray, List.set_cons_zero, List.set_cons_succ]
                  refine H.tk (i := 20) (v := .slice qa ls.length qk) ?h20x37 hS ?_
                  case h20x37 => exact (fun w hw => by go_simp)
                  try simp only [Act.put, List.setIfInBounds_toArray, List.set_cons_zero, List.set_cons_succ]
                  refine H.tk (i := 21) (v := .int .i64 q.2.2) ?h21x38 hS ?_
                  case h21x38 => exact (fun w hw => by go_simp)
                  try simp only [Act.put, List.setIfInBounds_toArray, List.set_cons_zero, List.set_cons_succ]
                  refine H.one (i := 23) (by simp only [List.getElem?_toArray, List.getElem?_cons_succ, List.getElem?_cons_zero]; rfl) (by kernel_rfl) (by kernel_rfl) (fun K hK => ?_)
                  refine wp_store_row 27 _ _ rfl g q.1.cells rfl rfl 27 Kx.zero.cells G0.out infoX rfl (oneX _) ?_
                  refine hK.out _ _ (Box.below_setRow hS hz0 _) ?_
                  clear hK K
                  have hS' := Box.below_setRow hS hz0 q.1.cells
                  clear hS
                  have hS := hS'
                  clear hS'
                  have G0 := Lib.hid (G0.out.put q.1.cells)
                  have HM := Lib.hid (HM.out.under hgY q.1.cells).row
                  generalize X3.setRow g q.1.cells = Y at *
                  try simp only [Act.put]
                  refine H.tk (i := 24) (v := .slice qa ls.length qk) ?h24x39 hS ?_
                  case h24x39 => exact (fun w hw => by go_simp)
                  try simp only [Act.put, List.setIfInBounds_toArray, List.set_cons_zero, List.set_cons_succ]
                  refine H.tk (i := 25) (v := .int .i64 q.2.2) ?h25x40 hS ?_
                  case h25x40 => exact (fun w hw => by go_simp)
                  try simp only [Act.put, List.setIfInBounds_toArray, List.set_cons_zero, List.set_cons_succ]
                  refine wpAnyH_done (by kernel_rfl) ?_ _
                  go_wp2_with fail
                  go_meet
                  exact ⟨g, qa, qk, ls, rfl, rfl, rfl, HP.out, HM.out, G0.out, hz0, hS⟩
              case wb12 =>
                go_simp
                refine hK.out _ _ (balloc hS (.cells Kx.zero.cells 27)) ?_
                clear hK K
                change wpAnyH _ _ _ _ _ _ _ _ (X0.alloc (.cells Kx.zero.cells 27))
                have hz0 := hS.size
                have G0 := Lib.hid (Bk.Bk.new 27 X0 Kx.zero.cells)
                have hS' := balloc hS (.cells Kx.zero.cells 27)
                clear hS
                have hS := hS'
                clear hS'
                generalize X0.alloc (.cells Kx.zero.cells 27) = X1 at *
                generalize X0.heap.size = g at *
                try simp only [Act.put, List.setIfInBounds_toArray, List.set_cons_zero, List.set_cons_succ]
                refine H.one (i := 5) (by simp only [List.getElem?_toArray, List.getElem?_cons_succ, List.getElem?_cons_zero]; rfl) (by kernel_rfl) (by kernel_rfl) (fun K hK => ?_)
                refine wp_valW rfl (ex_bsO (c := (kn : Int)) rfl rfl) ?_
                refine hK.out _ _ (balloc hS (.cells #[.int .u8 (kn : Int)] 5)) ?_
                have HK := Lib.hid (Bk.Bk.new 5 X1 #[.int .u8 (kn : Int)])
                clear hK K
                have hS' := balloc hS (.cells #[.int .u8 (kn : Int)] 5)
                clear hS
                have hS := hS'
                clear hS'
                have G0 := Lib.hid (G0.out.old (.cells #[.int .u8 (kn : Int)] 5))
                generalize X1.alloc (.cells #[.int .u8 (kn : Int)] 5) = X2 at *
                generalize X1.heap.size = gb at *
                try simp only [Act.put, List.setIfInBounds_toArray, List.set_cons_zero, List.set_cons_succ]
                refine H.one (i := 6) (by simp only [List.getElem?_toArray, List.getElem?_cons_succ, List.getElem?_cons_zero]; rfl) (by kernel_rfl) (by kernel_rfl) (fun K hK => ?_)
                refine wp_valW rfl (ex_conv (x := .tmp 133) (v := .slice (some ⟨gb, 0, none⟩) 1 1) rfl rfl (CV.out _ _ HK.out)) ?_
                refine hK.out _ _ hS ?_
                clear hK K
                try simp only [Act.put, List.setIfInBounds_toArray, List.set_cons_zero, List.set_cons_succ]
                refine H.tk (i := 7) (v := .string x1) ?h7x41 hS ?_
                case h7x41 => exact (fun w hw => by go_simp)
                try simp only [Act.put, List.setIfInBounds_toArray, List.set_cons_zero, List.set_cons_succ]
                refine H.tk (i := 10) (v := .string x2) ?h10x42 hS ?_
                case h10x42 => exact (fun w hw => by go_simp)
                try simp only [Act.put, List.setIfInBounds_toArray, List.set_cons_zero, List.set_cons_succ]
                refine H.tk (i := 15) (v := .string dd) ?h15x43 hS ?_
                case h15x43 => exact (fun w hw => by go_simp)
                try simp only [Act.put, List.setIfInBounds_toArray, List.set_cons_zero, List.set_cons_succ]
                refine H.tk (i := 16) (v := .agg (cellsT (0, (dd, 8)))) ?h16x44 hS ?_
                case h16x44 => exact (fun w hw => ex_built rfl (by kernel_rfl))
                try simp only [Act.put, List.setIfInBounds_toArray, List.set_cons_zero, List.set_cons_succ]
                refine H.one (i := 17) (by simp only [List.getElem?_toArray, List.getElem?_cons_succ, List.getElem?_cons_zero]; rfl) (by kernel_rfl) (by kernel_rfl) (fun K hK => ?_)
                go_simp
                refine (P2.out _ (HT.out.below hS)).mono ?_
                rintro e X3 ⟨qa, qk, ls, rfl, hp, hm, hb⟩
                refine hK.out _ _ (bcall hS hb) ?_
                clear hK K
                have hS' := bcall hS hb
                have hgY := G0.out.lt
                have G0 := Lib.hid (G0.out.below hb)
                clear hS
                have hS := hS'
                clear hS'
                have hz1 := hS.size
                have HP := Lib.hid hp
                have HM := Lib.hid hm
                clear hb hm hp
                try simp only [Act.put, List.setIfInBounds_toArray, List.set_cons_zero, List.set_cons_succ]
                refine H.tk (i := 18) (v := .tuple #[.agg q.1.cells, .slice qa ls.length qk, .int .i64 q.2.2]) ?h18x45 hS ?_
                case h18x45 => exact (fun w hw => by go_simp)
                try simp only [Act.put, List.setIfInBounds_toArray, List.set_cons_zero, List.set_cons_succ]
                refine H.tk (i := 19) (v := .agg q.1.cells) ?h19x46 hS ?_
                case h19x46 => exact (fun w hw => by go_simp)
                try simp only [Act.put, List.setIfInBounds_toArray, List.set_cons_zero, List.set_cons_succ]
                refine H.tk (i := 20) (v := .slice qa ls.length qk) ?h20x47 hS ?_
                case h20x47 => exact (fun w hw => by go_simp)
                try simp only [Act.put, List.setIfInBounds_toArray, List.set_cons_zero, List.set_cons_succ]
                refine H.tk (i := 21) (v := .int .i64 q.2.2) ?h21x48 hS ?_
                case h21x48 => exact (fun w hw => by go_simp)
                try simp only [Act.put, List.setIfInBounds_toArray, List.set_cons_zero, List.set_cons_succ]
                refine H.one (i := 23) (by simp only [List.getElem?_toArray, List.getElem?_cons_succ, List.getElem?_cons_zero]; rfl) (by kernel_rfl) (by kernel_rfl) (fun K hK => ?_)
                refine wp_store_row 27 _ _ rfl g q.1.cells rfl rfl 27 Kx.zero.cells G0.out infoX rfl (oneX _) ?_
                refine hK.out _ _ (Box.below_setRow hS hz0 _) ?_
                clear hK K
                have hS' := Box.below_setRow hS hz0 q.1.cells
                clear hS
                have hS := hS'
                clear hS'
                have G0 := Lib.hid (G0.out.put q.1.cells)
                have HM := Lib.hid (HM.out.under hgY q.1.cells).row
                generalize X3.setRow g q.1.cells = Y at *
                try simp only [Act.put]
                refine H.tk (i := 24) (v := .slice qa ls.length qk) ?h24x49 hS ?_
                case h24x49 => exact (fun w hw => by go_simp)
                try simp only [Act.put, List.setIfInBounds_toArray, List.set_cons_zero, List.set_cons_succ]
                refine H.tk (i := 25) (v := .int .i64 q.2.2) ?h25x50 hS ?_
                case h25x50 => exact (fun w hw => by go_simp)
                try simp only [Act.put, List.setIfInBounds_toArray, List.set_cons_zero, List.set_cons_succ]
                refine wpAnyH_done (by kernel_rfl) ?_ _
                go_wp2_with fail
                go_meet
                exact ⟨g, qa, qk, ls, rfl, rfl, rfl, HP.out, HM.out, G0.out, hz0, hS⟩
          case rest =>
            obtain ⟨g2, qa2, qk2, l2, rfl, rfl, rfl, hp2, hm2, hx2, hg2, hb⟩ := hcut
            have HT := Lib.hid (HT.out.below hb)
            have XS1 := Lib.hid (XS1.out.below hb)
            have HM1 := Lib.hid (HM1.out.below hb)
            have HB := Lib.hid (bcall HB.out hb)
            have HP2 := Lib.hid hp2
            have HM2 := Lib.hid hm2
            have XS2 := Lib.hid hx2
            clear hb hp2 hm2 hx2 P2 CV S0
            generalize wc = V4 at *
            obtain ⟨x, ml, er⟩ := q
            have HE := Lib.hid (show er = 0 from HE.out)
            have hse : sameL l1 l2 = true := by rw [HP1.out.same HP2.out]; exact sameL_refl _
            have hln : l1.length ≤ 1 ∧ l2.length ≤ 1 := by
              rw [HP1.out.1, HP2.out.1]
              rcases HTL.out with h | ⟨m, h, _⟩ <;> rw [h] <;> exact ⟨by simp, by simp⟩
            have PS := Lib.hid (fun V h h' => rsameAll_any qa1 qa2 qk1 qk2 l1 l2 V h h' (HP1.out.short HSH.out) (HP2.out.short HSH.out) (by omega) (by omega))
            rw [hse] at PS
            have h0 := HE.out
            subst h0
            clear hse hln HP1 HP2 HSH HTL HE
            go_wp2_with fail
            refine (awake_any _ HT.out).mono ?_
            rintro r w9 ⟨rfl, hb⟩
            have XS1 := Lib.hid (XS1.out.below hb)
            have XS2 := Lib.hid (XS2.out.below hb)
            have HM1 := Lib.hid (HM1.out.below hb)
            have HM2 := Lib.hid (HM2.out.below hb)
            have HB := Lib.hid (bcall HB.out hb)
            clear hb
            go_wp2_with (first | (refine st_yes (v := .agg x.cells) (by rfl) rfl (run_loadK shX (x := .tmp 9) rfl rfl XS1.out rfl) ?_) | (refine st_yes (v := .agg x.cells) (by rfl) rfl (run_loadK shX (x := .tmp 14) rfl rfl XS2.out rfl) ?_) | (refine st_yes (v := .bool true) (by rfl) rfl (ex_eqX (c := x) (x := .tmp 155) (y := .tmp 156) rfl rfl rfl) ?_))
            refine (PS.out _ HM1.out HM2.out).mono ?_
            rintro r w10 ⟨rfl, hb⟩
            have HB := Lib.hid (bcall HB.out hb)
            clear hb
            go_wp2
            go_ret
            exact ⟨rfl, HB.out⟩

theorem own : ownKnob Tryd.prog.godebug = none := by kernel_rfl

set_option maxRecDepth 100000 in
theorem lifted (os : Os) (started : os.Started) (H : Type) (enc : TypeId × Value → H) :
    ReturnsInHanded {} Tryd.checked os 4 .any (fun w args => (Rows.ctxBytesSpec.pre enc Tryd.prog Tryd.f4 Rows.ctxBytesRow.domain false w args ∧ laidMetH Tryd.prog Rows.ctxBytesRow.laid w) ∧ sizedMet enc Tryd.prog Tryd.f4 (OpenSpec.ofChange Rows.ctxBytesSpec) false w args)
      (Rows.ctxBytesSpec.post enc Tryd.prog Tryd.f4 false true false false) := by
  refine returnsInHanded_of_change_and (C := Tryd.checked) (X := fun w _ => laidMetH Tryd.prog Rows.ctxBytesRow.laid w) (fun _ _ _ hh h => h.of_heap hh) own started (by kernel_rfl) Tryd.func4
    (ChangeSpec.witness_shaped (enc := enc) (C := Tryd.checked) (os := os) (X := fun w _ => laidMetH Tryd.prog Rows.ctxBytesRow.laid w) false (World.laidAll Tryd.prog os Rows.ctxBytesRow.laid) #[.agg Kx.zero.cells, .string ByteArray.empty, .int .u8 0] 8 (World.laidAll_os _ _ _)
      (World.shaped_of_ZipB (by kernel_rfl) (by kernel_rfl)) (by kernel_rfl) (by kernel_rfl) (by kernel_rfl)
      (by rw [MakeChecks.laidMetH_plain _ _ _ (by kernel_rfl)]; exact laidMet_laidAll _ (by kernel_rfl) (by kernel_rfl))) ?_
  intro W base args ds gs before hval0 hW _ _ hL0 _
  have hMet := of_laid hL0
  have hval : ∀ (j : Nat) t v, Tryd.f4.params[j]? = some t → args[j]? = some v → Value.okWide Tryd.prog W .any base t v := hval0
  have hW' := hW
  have hlt := fun x hx => hW'.lt x hx
  obtain ⟨p, q, hA0, hV, rfl, hfz, hnd⟩ := hW
  have hA : DataW.TrodAll enc Tryd.prog W 0 (fun _ => true) true Tryd.f4.params.toList args.toList ds p := hA0
  rw [Tryd.params4] at hA hval
  obtain ⟨v0, vs0, d0, ds0, p0, q0, hargs, rfl, rfl, h0, r0⟩ := trodAll_cons hA
  obtain ⟨v1, vs1, d1, ds1, p1, q1, rfl, rfl, rfl, h1, r1⟩ := trodAll_cons r0
  obtain ⟨v2, vs2, d2, ds2, p2, q2, rfl, rfl, rfl, h2, r2⟩ := trodAll_cons r1
  obtain ⟨rfl, rfl, rfl⟩ := trodAll_nil r2
  obtain rfl : args = #[v0, v1, v2] := by cases args; simp_all
  obtain ⟨rfl, rfl⟩ := trodVars_none hV
  obtain ⟨c, rfl, hf⟩ := by_ctx (hval 0 27 v0 rfl rfl) h0
  have k1 := h1
  obtain ⟨d, rfl, rfl, rfl, hz⟩ := open_string Tryd.underlying9 (hval 1 9 v1 rfl rfl) k1
  have k2 := h2
  obtain ⟨n, rfl, rfl, rfl, wf⟩ := open_int Tryd.underlying5 (hval 2 5 v2 rfl rfl) k2
  clear hA0 hval0
  simp only [List.append_nil] at hW' hlt
  refine (walk c d n W hf hz wf hMet).mono fun e W' ⟨he, hg⟩ => ?_
  subst he
  exact ⟨_, rfl, _, _, _, [], _, [], hW', trodAll_mk1 (shut_bool Tryd.underlying4 _), (trodAll_cons_mk (again (by kernel_rfl) (of_decide_eq_true (by kernel_rfl)) h0 hg fun x hx => hlt x (by first | exact absurd hx (by simp) | simp [hx])) (trodAll_cons_mk (again (by kernel_rfl) (of_decide_eq_true (by kernel_rfl)) h1 hg fun x hx => hlt x (by first | exact absurd hx (by simp) | simp [hx])) (trodAll_cons_mk (again (by kernel_rfl) (of_decide_eq_true (by kernel_rfl)) h2 hg fun x hx => hlt x (by first | exact absurd hx (by simp) | simp [hx])) trodAll_mk0))), rfl, hg.frame _, fun h => by cases h⟩

theorem over : Rows.CtxBytesSaid :=
  OpenClaim.holds_of_wide 4 Tryd.f4 rfl rfl rfl rfl rfl rfl rfl ⟨rfl, rfl, rfl, rfl, rfl⟩ rfl rfl rfl rfl rfl (by kernel_rfl) Tryd.func4 (by kernel_rfl)
    (of_decide_eq_true (by kernel_rfl)) (by unfold Func.isWrapper; first | (rw [if_pos (by decide +kernel)]; kernel_rfl) | (rw [if_neg (by decide +kernel)]; exact ⟨rfl, rfl⟩))
    (fun os started H enc _ => lifted os started H enc)

theorem proved : Rows.CtxBytesCardSaid :=
  Claim7.holds_tied_plain_at .later [] _ true _ _
    over (fun _ h => by cases h) (by kernel_rfl) (fun _ h => by cases h) ctxBytes_row_tie rfl ⟨rfl, rfl⟩ (by kernel_rfl) rfl
    (fun f fn hf hfn => by
      obtain rfl : f = 4 := Option.some.inj ((show Tryd.prog.funcNamed "roadbook/roadbooklaw22.CtxBytes" = some 4 by kernel_rfl).symm.trans hf) |>.symm
      obtain rfl : fn = Tryd.f4 := (Option.some.inj (Tryd.func4.symm.trans hfn)).symm
      exact ⟨by kernel_rfl, fun j t ht => by
        rw [Tryd.params4] at ht
        have hm : t ∈ [27, 9, 5] := by simpa using Array.mem_of_getElem? ht
        have hall : ([27, 9, 5].all fun u => !Tryd.prog.wantsStandIn u) = true := by kernel_rfl
        exact (show Tryd.prog.wantsStandIn t = false by simpa using List.all_eq_true.1 hall t hm)⟩)
    (by kernel_rfl)
#print axioms proved
end Go.Proofs.YteecialdkfaejaaDoor.ctxBytes
