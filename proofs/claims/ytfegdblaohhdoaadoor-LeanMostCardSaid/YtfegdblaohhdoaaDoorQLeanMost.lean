/-
  The statement LeanMost, of anything known and any message. Condition: the listed variables have what the program's text lays them with (the tied card).
-/
import Derived.Test.YtfegdblaohhdoaaDoorQ03
import Derived.Test.YtfegdblaohhdoaaDoorQ08
import Derived.Test.YtfegdblaohhdoaaDoorCards
import Derived.Test.YtfegdblaohhdoaaDoorTie
import Derived.Lay
import Derived.SevenTiedAt
import Derived.Stop.Joined
namespace Go.Proofs.YtfegdblaohhdoaaDoor.leanMost
open Go.ChangeShapes Go.WideShapes Go.ChangeAt Go.RowKit
open Go.ChangeMaps (open_string shut_string)
open Go.Proofs.YtfegdblaohhdoaaDoor.Ms
open Go.Proofs.YtfegdblaohhdoaaDoor.Box
open Go.Proofs.YtfegdblaohhdoaaDoor.J1
open Go.Proofs.YtfegdblaohhdoaaDoor.An
open Go.Proofs.YtfegdblaohhdoaaDoor.Tc
open Go.Proofs.YtfegdblaohhdoaaDoor.K1
open Go.Proofs.YtfegdblaohhdoaaDoor.Kb
open Go.Proofs.YtfegdblaohhdoaaDoor.Hs
open Go.Proofs.YtfegdblaohhdoaaDoor.Open
set_option linter.unusedVariables false

open Go.Proofs.YtfegdblaohhdoaaDoor.Nu (text_eq ext_list)
open Go.Proofs.YtfegdblaohhdoaaDoor.Tl (cellsT TRow Lst indexT)
open Go.Proofs.YtfegdblaohhdoaaDoor.Or (st_yes)
open Go.Proofs.YtfegdblaohhdoaaDoor.Hy (H.one wp_valW)
open Go.Proofs.YtfegdblaohhdoaaDoor.Bk (Bk wpList_builtK run_loadK alloc_size loadVarK)
open Go.Proofs.YtfegdblaohhdoaaDoor.F1 (T encT placed placed_append placed_len outT bt bt_nn bt_lt)
open Go.Proofs.YtfegdblaohhdoaaDoor.F2 (idx sl_m sl_l)
open Go.Proofs.YtfegdblaohhdoaaDoor.F4 (AnsT)
open Go.Proofs.YtfegdblaohhdoaaDoor.L1
open Go.Proofs.YtfegdblaohhdoaaDoor.L2
open Go.Proofs.YtfegdblaohhdoaaDoor.Cx
open Go.Proofs.YtfegdblaohhdoaaDoor.Lc
open Go.Proofs.YtfegdblaohhdoaaDoor.Pre (leastN)
open Go.Proofs.YtfegdblaohhdoaaDoor.J2 (nil_eq nil_em)
open Go.Proofs.YtfegdblaohhdoaaDoor.Lw
open Go.Proofs.YtfegdblaohhdoaaDoor.Lu (way_len)
theorem K8h (s : ByteArray) (j : Int) (hi : Nat) (hj : j = hi) (h : hi ≤ s.size) (W : World) : (Instr.slice 9 (.string s) none (some (.int .i64 j)) none).run Tryd.prog W = .ok (.string (s.extract 0 hi)) W := by
  subst hj
  have := run_slice_string_h (P := Tryd.prog) (t := 9) (s := s) W Tryd.underlying9 .i64 (hi : Int) (by omega) (by omega)
  simpa using this

set_option maxHeartbeats 51200000 in
set_option maxRecDepth 100000 in
theorem walk (c : Kx) (m : M) (w : World) (hf : Fit c) (hd : DRow w m.la m.ll) (hs : SRow w m.sa m.sl) (hp : m.pfx.size ≤ maxLen) (ht : Tab w) :
    Calls Tryd.prog 3 #[.agg c.cells, .agg m.cells] w fun r w' => r = .returned (.bool true) ∧ Below w.heap.size w w' := by
  have hid : c.id.size ≤ maxLen := hf.2.2.2.2.2.2
  unfold maxLen at hid
  have HT := Lib.hid ht
  have h1 := ht.pos
  have D := Lib.hid (Vs.start w c m hd hs)
  have PA := Lib.hid (fun V (y : Tab V) => La.awake_any V y)
  clear ht hf hd hs
  go_enter Tryd.func3, Tryd.ntmps3
  go_upto_region 1 with fail
  change Code.wp _ _ _ _ ((w.alloc (.cells c.cells 25)).alloc (.cells m.cells 29))
  generalize (w.alloc (.cells c.cells 25)).alloc (.cells m.cells 29) = V at *
  have PF := Lib.hid (Few.few_any m V D.out.d D.out.s)
  have PO := Lib.hid (fun V => Ko.rok_any c V)
  have ci := D.out.s0.cell 6 (.string c.id) rfl
  by_cases hf : Few.fewB m = true
  rotate_left
  · have hf : Few.fewB m = false := by simpa using hf
    rw [hf] at PF
    clear hf
    go_wp2_with (first | (refine wpList_loadM (b := w.heap.size + 1) (m := m) rfl _ rfl rfl D.out.m0 ?_))
    refine PF.out.mono ?_
    rintro r w1 ⟨rfl, hb⟩
    have D := Lib.hid (D.out.call hb)
    clear hb PF ci
    have ci := D.out.s0.cell 6 (.string c.id) rfl
    go_wp2_with fail
    refine (PA.out _ (HT.out.below D.out.bel)).mono ?_
    rintro r w9 ⟨rfl, hb⟩
    have HB := Lib.hid (bcall D.out.bel hb)
    clear hb
    go_wp2
    go_ret
    exact ⟨rfl, HB.out⟩
  have hfew := few_parts hf
  rw [hf] at PF
  have HIN := Lib.hid (fun W (h : Vs w c m W) => few_in hf h.d h.s)
  by_cases h100 : 100 < c.id.size
  · have h100' : 100 < (c.id.size : Int) := by omega
    clear HIN hfew hf
    go_wp2_with (first | (refine wpList_loadM (b := w.heap.size + 1) (m := m) rfl _ rfl rfl D.out.m0 ?_))
    refine PF.out.mono ?_
    rintro r w1 ⟨rfl, hb⟩
    have D := Lib.hid (D.out.call hb)
    clear hb PF ci
    have ci := D.out.s0.cell 6 (.string c.id) rfl
    go_wp2_with fail
    refine (PA.out _ (HT.out.below D.out.bel)).mono ?_
    rintro r w9 ⟨rfl, hb⟩
    have HB := Lib.hid (bcall D.out.bel hb)
    clear hb
    go_wp2
    go_ret
    exact ⟨rfl, HB.out⟩
  have h100' : ¬ 100 < (c.id.size : Int) := by omega
  have d100 : decide (100 < (c.id.size : Int)) = false := decide_eq_false h100'
  cases hc : okC c
  · rw [hc] at PO
    clear HIN hfew hf hc
    go_wp2_with (first | (refine wpList_loadM (b := w.heap.size + 1) (m := m) rfl _ rfl rfl D.out.m0 ?_))
    refine PF.out.mono ?_
    rintro r w1 ⟨rfl, hb⟩
    have D := Lib.hid (D.out.call hb)
    clear hb PF ci
    have ci := D.out.s0.cell 6 (.string c.id) rfl
    go_wp2_with (first | (refine st_yes (v := .agg c.cells) (by rfl) rfl (run_loadK shX (x := .tmp 2) rfl rfl D.out.s0 rfl) ?_))
    refine (PO.out _).mono ?_
    rintro r w2 ⟨rfl, hb⟩
    have D := Lib.hid (D.out.call hb)
    clear hb PO ci
    go_wp2_with fail
    refine (PA.out _ (HT.out.below D.out.bel)).mono ?_
    rintro r w9 ⟨rfl, hb⟩
    have HB := Lib.hid (bcall D.out.bel hb)
    clear hb
    go_wp2
    go_ret
    exact ⟨rfl, HB.out⟩
  rw [hc] at PO
  by_cases hk : m.kind = 11
  rotate_left
  · have e11 : (m.kind == 11) = false := by simpa using hk
    clear HIN hfew hf hc hk
    go_wp2_with (first | (refine wpList_loadM (b := w.heap.size + 1) (m := m) rfl _ rfl rfl D.out.m0 ?_))
    refine PF.out.mono ?_
    rintro r w1 ⟨rfl, hb⟩
    have D := Lib.hid (D.out.call hb)
    clear hb PF ci
    have ci := D.out.s0.cell 6 (.string c.id) rfl
    go_wp2_with (first | (refine st_yes (v := .agg c.cells) (by rfl) rfl (run_loadK shX (x := .tmp 2) rfl rfl D.out.s0 rfl) ?_))
    refine (PO.out _).mono ?_
    rintro r w2 ⟨rfl, hb⟩
    have D := Lib.hid (D.out.call hb)
    clear hb PO ci
    have c0 := D.out.m0.cs.c0
    go_wp2_with fail
    refine (PA.out _ (HT.out.below D.out.bel)).mono ?_
    rintro r w9 ⟨rfl, hb⟩
    have HB := Lib.hid (bcall D.out.bel hb)
    clear hb
    go_wp2
    go_ret
    exact ⟨rfl, HB.out⟩
  have PP := Lib.hid (fun V (y : m.In V) (z : Tab V) => Lv.put_any c m V y (by have := hfew.2.1; omega) hfew.2.2 hp hc z)
  have h300 := hfew.2.1
  clear hfew hp hf
  cases hl : okL m
  · rw [put_no hl] at PP
    clear hl hc h300
    go_wp2_with (first | (refine wpList_loadM (b := w.heap.size + 1) (m := m) rfl _ rfl rfl D.out.m0 ?_))
    refine PF.out.mono ?_
    rintro r w1 ⟨rfl, hb⟩
    have D := Lib.hid (D.out.call hb)
    clear hb PF ci
    have ci := D.out.s0.cell 6 (.string c.id) rfl
    go_wp2_with (first | (refine st_yes (v := .agg c.cells) (by rfl) rfl (run_loadK shX (x := .tmp 2) rfl rfl D.out.s0 rfl) ?_))
    refine (PO.out _).mono ?_
    rintro r w2 ⟨rfl, hb⟩
    have D := Lib.hid (D.out.call hb)
    clear hb PO ci
    have c0 := D.out.m0.cs.c0
    rw [hk] at c0
    go_wp2_with (first | (refine wpList_loadX (b := w.heap.size) (m := c) rfl _ rfl rfl D.out.s0 ?_) | (refine wpList_loadM (b := w.heap.size + 1) (m := m) rfl _ rfl rfl D.out.m0 ?_))
    refine (PP.out _ (HIN.out _ D.out) (HT.out.below D.out.bel)).mono ?_
    rintro r w3 ⟨rfl, hb⟩
    have D := Lib.hid (D.out.call hb)
    clear hb PP c0
    go_upto_region 4 with (refine wpList_storeX (b := w3.heap.size) (m := Kx.zero) (m' := c) rfl _ _ rfl rfl rfl (Bk.Bk.new 25 w3 Kx.zero.cells) ?_)
    change Code.wp _ _ _ _ ((w3.alloc (.cells Kx.zero.cells 25)).setRow w3.heap.size (Kx.cells c))
    rw [World.setRow_alloc_new]
    have D := Lib.hid (D.out.call (balloc (Below.refl w3.heap.size w3) (.cells (Kx.cells c) 25)))
    generalize w3.alloc (.cells (Kx.cells c) 25) = V4 at *
    go_wp2_with fail
    refine (PA.out _ (HT.out.below D.out.bel)).mono ?_
    rintro r w9 ⟨rfl, hb⟩
    have HB := Lib.hid (bcall D.out.bel hb)
    clear hb
    go_wp2
    go_ret
    exact ⟨rfl, HB.out⟩
  cases hb : badC c m
  rotate_left
  · rw [put_bad hl hb] at PP
    clear hl hb hc h300
    go_wp2_with (first | (refine wpList_loadM (b := w.heap.size + 1) (m := m) rfl _ rfl rfl D.out.m0 ?_))
    refine PF.out.mono ?_
    rintro r w1 ⟨rfl, hb⟩
    have D := Lib.hid (D.out.call hb)
    clear hb PF ci
    have ci := D.out.s0.cell 6 (.string c.id) rfl
    go_wp2_with (first | (refine st_yes (v := .agg c.cells) (by rfl) rfl (run_loadK shX (x := .tmp 2) rfl rfl D.out.s0 rfl) ?_))
    refine (PO.out _).mono ?_
    rintro r w2 ⟨rfl, hb⟩
    have D := Lib.hid (D.out.call hb)
    clear hb PO ci
    have c0 := D.out.m0.cs.c0
    rw [hk] at c0
    go_wp2_with (first | (refine wpList_loadX (b := w.heap.size) (m := c) rfl _ rfl rfl D.out.s0 ?_) | (refine wpList_loadM (b := w.heap.size + 1) (m := m) rfl _ rfl rfl D.out.m0 ?_))
    refine (PP.out _ (HIN.out _ D.out) (HT.out.below D.out.bel)).mono ?_
    rintro r w3 ⟨rfl, hb⟩
    have D := Lib.hid (D.out.call hb)
    clear hb PP c0
    go_upto_region 4 with (refine wpList_storeX (b := w3.heap.size) (m := Kx.zero) (m' := c) rfl _ _ rfl rfl rfl (Bk.Bk.new 25 w3 Kx.zero.cells) ?_)
    change Code.wp _ _ _ _ ((w3.alloc (.cells Kx.zero.cells 25)).setRow w3.heap.size (Kx.cells c))
    rw [World.setRow_alloc_new]
    have D := Lib.hid (D.out.call (balloc (Below.refl w3.heap.size w3) (.cells (Kx.cells c) 25)))
    generalize w3.alloc (.cells (Kx.cells c) 25) = V4 at *
    go_wp2_with fail
    refine (PA.out _ (HT.out.below D.out.bel)).mono ?_
    rintro r w9 ⟨rfl, hb⟩
    have HB := Lib.hid (bcall D.out.bel hb)
    clear hb
    go_wp2
    go_ret
    exact ⟨rfl, HB.out⟩
  rw [put_yes hl hb] at PP
  by_cases h0 : m.ae = 0
  · have e0 : (m.ae == 0) = true := by simpa using h0
    clear hl hb hc h300
    generalize ctxL c m = cf at *
    generalize (⟨(encT (elsL c m)).toArray⟩ : ByteArray) = s at *
    go_wp2_with (first | (refine wpList_loadM (b := w.heap.size + 1) (m := m) rfl _ rfl rfl D.out.m0 ?_))
    refine PF.out.mono ?_
    rintro r w1 ⟨rfl, hb⟩
    have D := Lib.hid (D.out.call hb)
    clear hb PF ci
    have ci := D.out.s0.cell 6 (.string c.id) rfl
    go_wp2_with (first | (refine st_yes (v := .agg c.cells) (by rfl) rfl (run_loadK shX (x := .tmp 2) rfl rfl D.out.s0 rfl) ?_))
    refine (PO.out _).mono ?_
    rintro r w2 ⟨rfl, hb⟩
    have D := Lib.hid (D.out.call hb)
    clear hb PO ci
    have c0 := D.out.m0.cs.c0
    rw [hk] at c0
    go_wp2_with (first | (refine wpList_loadX (b := w.heap.size) (m := c) rfl _ rfl rfl D.out.s0 ?_) | (refine wpList_loadM (b := w.heap.size + 1) (m := m) rfl _ rfl rfl D.out.m0 ?_))
    refine (PP.out _ (HIN.out _ D.out) (HT.out.below D.out.bel)).mono ?_
    rintro r w3 ⟨rfl, hb⟩
    have D := Lib.hid (D.out.call hb)
    clear hb PP c0
    go_upto_region 4 with (refine wpList_storeX (b := w3.heap.size) (m := Kx.zero) (m' := cf) rfl _ _ rfl rfl rfl (Bk.Bk.new 25 w3 Kx.zero.cells) ?_)
    change Code.wp _ _ _ _ ((w3.alloc (.cells Kx.zero.cells 25)).setRow w3.heap.size (Kx.cells cf))
    rw [World.setRow_alloc_new]
    have D := Lib.hid (D.out.call (balloc (Below.refl w3.heap.size w3) (.cells (Kx.cells cf) 25)))
    generalize w3.alloc (.cells (Kx.cells cf) 25) = V4 at *
    have c5 := D.out.m0.cs.c5
    go_wp2_with fail
    refine (PA.out _ (HT.out.below D.out.bel)).mono ?_
    rintro r w9 ⟨rfl, hb⟩
    have HB := Lib.hid (bcall D.out.bel hb)
    clear hb
    go_wp2
    go_ret
    exact ⟨rfl, HB.out⟩
  have e0 : (m.ae == 0) = false := by simpa using h0
  have hu := ok_u hl hk
  have o := (oku_iff m).1 hu
  obtain ⟨a0, a1, p0, p1⟩ := len_range (in_cases o.pfx).1
  obtain ⟨ho, _, _⟩ := om_le (c := c) hu
  have hct := (count_le (in_cases o.pfx).1).1
  have hups := upd_size hu ho
  have hupl : (updD m (omN c m)).data.toList = updL m (omN c m) := rfl
  have hb3 : bt (updD m (omN c m)) 3 = ((omN c m : Nat) : Int) := by
    obtain ⟨ca, ha, _⟩ := lay_one (v := m.ae) a0 (by omega)
    obtain ⟨cf, hf, _⟩ := lay_one (v := flB m) (by unfold flB; split <;> omega) (by unfold flB; split <;> omega)
    obtain ⟨cp, hp, _⟩ := lay_one (v := m.plen) p0 (by omega)
    obtain ⟨cn, hn1, hcn⟩ := lay_one (v := ((omN c m : Nat) : Int)) (by omega) (by omega)
    rw [at_3 (show (updD m (omN c m)).data.toList = ca :: cf :: cp :: cn :: _ by rw [hupl]; unfold updL; rw [ha, hf, hp, hn1]; rfl)]
    exact hcn
  have PSX := fun V => F5.rsplit_own ⟨(encT (elsL c m)).toArray⟩ 0 V (by rw [mk_size]; have := (Lv.els_size hl hb).2; omega) (by decide) (by decide)
  rw [split_yes hl hb] at PSX
  have hels : placed 0 (elsL c m) = placed 0 (wayE c m) ++ [((0 : Int) + ((encT (wayE c m)).length : Int), (updD m (omN c m), 8))] := by
    unfold elsL
    rw [if_pos hk, F1.placed_snoc]
  have hidx := idx (updD m (omN c m)) 3 3 rfl (by have := hups.1; omega)
  rw [hb3] at hidx
  have hcv := Hx.conv8 ((omN c m : Nat) : Int) (by omega) (by omega)
  have hmost := fun h => L3.most hc hu h0 h
  have hnone := L3.om_none (c := c) (m := m)
  have hle10 : 10 ≤ (updD m (omN c m)).size := by have := hups.1; omega
  have hadr := adr_len (in_adr o.pfx) (by omega) a1
  have hlst : ((leastN m.plen : Nat) : Int) = (m.plen + 7) / 8 := by unfold leastN; omega
  obtain ⟨k, hkk⟩ : ∃ k : Nat, m.ae = k := ⟨m.ae.toNat, by omega⟩
  have hk4 : k < 4 := by omega
  obtain ⟨L, hL⟩ : ∃ l, l = placed 0 (elsL c m) := ⟨_, rfl⟩
  rw [← hL] at hels PSX
  have hn1 : L.length = (wayE c m).length + 1 := by rw [hels, List.length_append, placed_len]; rfl
  have hLn : ∀ (h : (wayE c m).length < L.length), L[(wayE c m).length].2 = (updD m (omN c m), 8) := fun h => by
    subst hels
    simp [placed_len]
  have hn2 : (wayE c m).length ≤ 2 := by have := way_len c m; rw [elB_len] at this; exact this
  have HSP := Lib.hid (fun V => (PSX V).mono (fun e w' (x : AnsT (L, 0, 0) V e w') => show ∃ g kk, e = .returned (.tuple #[.slice (some ⟨g, 0, none⟩) ((wayE c m).length + 1) kk, .int .i64 0, .int .i64 0]) ∧ (∀ W, Below w'.heap.size w' W → W.cell? ⟨g, (wayE c m).length * 3, none⟩ = some (.int .i64 8) ∧ W.cell? ⟨g, (wayE c m).length * 3 + 2, none⟩ = some (.string (updD m (omN c m)))) ∧ Below V.heap.size V w' from by
    obtain ⟨a, kk, he, hl, hb⟩ := x
    have hl : Lst V.heap.size w' (.slice a L.length kk) L := hl
    obtain ⟨g, rfl, _, _⟩ := own_at hl (by omega)
    have hlt : (wayE c m).length < L.length := by omega
    refine ⟨g, kk, by rw [he]; show Ending.returned (.tuple #[.slice (some ⟨g, 0, none⟩) L.length kk, _, _]) = _; rw [hn1], fun W hW => ?_, hb⟩
    have := cells_at hl _ hlt W hW
    rw [hLn hlt] at this
    exact this))
  clear PSX hels hL hn1 hLn o ho hct hups hupl hb3 hb hl hu h300
  generalize (wayE c m).length = n1 at *
  generalize updD m (omN c m) = d at *
  generalize ctxL c m = cf at *
  generalize (⟨(encT (elsL c m)).toArray⟩ : ByteArray) = s at *
  have hn1' : (n1 : Int) ≤ 2 := by omega
  have hle10' : 10 ≤ (d.size : Int) := by omega
  have d10 : decide ((d.size : Int) < 10) = false := decide_eq_false (by omega)
  have eln : ((n1 : Int) + 1 == 0) = false := by rw [beq_eq_false_iff_ne]; omega
  have HK := Lib.hid hkk
  clear hkk
  go_wp2_with (first | (refine wpList_loadM (b := w.heap.size + 1) (m := m) rfl _ rfl rfl D.out.m0 ?_))
  refine PF.out.mono ?_
  rintro r w1 ⟨rfl, hb⟩
  have D := Lib.hid (D.out.call hb)
  clear hb PF ci
  have ci := D.out.s0.cell 6 (.string c.id) rfl
  go_wp2_with (first | (refine st_yes (v := .agg c.cells) (by rfl) rfl (run_loadK shX (x := .tmp 2) rfl rfl D.out.s0 rfl) ?_))
  refine (PO.out _).mono ?_
  rintro r w2 ⟨rfl, hb⟩
  have D := Lib.hid (D.out.call hb)
  clear hb PO ci
  have c0 := D.out.m0.cs.c0
  rw [hk] at c0
  go_wp2_with (first | (refine wpList_loadX (b := w.heap.size) (m := c) rfl _ rfl rfl D.out.s0 ?_) | (refine wpList_loadM (b := w.heap.size + 1) (m := m) rfl _ rfl rfl D.out.m0 ?_))
  refine (PP.out _ (HIN.out _ D.out) (HT.out.below D.out.bel)).mono ?_
  rintro r w3 ⟨rfl, hb⟩
  have D := Lib.hid (D.out.call hb)
  clear hb PP c0
  go_upto_region 4 with (refine wpList_storeX (b := w3.heap.size) (m := Kx.zero) (m' := cf) rfl _ _ rfl rfl rfl (Bk.Bk.new 25 w3 Kx.zero.cells) ?_)
  change Code.wp _ _ _ _ ((w3.alloc (.cells Kx.zero.cells 25)).setRow w3.heap.size (Kx.cells cf))
  rw [World.setRow_alloc_new]
  have D := Lib.hid (D.out.call (balloc (Below.refl w3.heap.size w3) (.cells (Kx.cells cf) 25)))
  generalize w3.alloc (.cells (Kx.cells cf) 25) = V4 at *
  have c5 := D.out.m0.cs.c5
  go_upto_region 6 with fail
  go_wp2_with fail
  refine (HSP.out _).mono ?_
  rintro r w5 ⟨g, kk, rfl, hat, hb⟩
  have D := Lib.hid (D.out.call hb)
  obtain ⟨l8, ld⟩ := hat _ (Below.refl _ w5)
  have ix := fun W => indexT ⟨g, 0, none⟩ (n1 + 1) kk n1 (Nat.lt_succ_self _) W
  rw [Tl.add_at, Nat.zero_add] at ix
  clear hb hat c5 HSP
  go_upto_region 10 with fail
  refine wp_region_held_drew (S := fun W => Vs w c m W) (by kernel_rfl) D.out.drew (fun hS => ?_)
  clear D l8 ld ix hidx hcv d10 eln
  generalize w5.drew = Y0 at *
  have PFA := Lib.hid (show ∀ W, Vs w c m W → W.cell? ⟨w.heap.size, k, none⟩ = some (.string (c.pf m.ae)) from fun W h => by rw [HK.out]; exact pf_at h.s0 hk4)
  refine H.tk (i := 0) (v := ?v0x1) ?h0x1 hS ?_
  case h0x1 => (intro w hw; go_simp; first | done | (with_reducible rfl))
  try simp only [Act.put, List.setIfInBounds_toArray, List.set_cons_zero, List.set_cons_succ]
  refine H.tk (i := 1) (v := ?v1x2) ?h1x2 hS ?_
  case h1x2 => (intro w hw; have c := (hw.m0).cs.c5; go_simp; first | done | (with_reducible rfl))
  try simp only [Act.put, List.setIfInBounds_toArray, List.set_cons_zero, List.set_cons_succ]
  refine H.tk (i := 2) (v := ?v2x3) ?h2x3 hS ?_
  case h2x3 => (intro w hw; go_simp; first | done | (with_reducible rfl))
  try simp only [Act.put, List.setIfInBounds_toArray, List.set_cons_zero, List.set_cons_succ]
  refine H.tk (i := 3) (v := .pointer (some ⟨w.heap.size, k, none⟩)) ?h3x4 hS ?_
  case h3x4 => exact (fun w1 hw => ex_index (vx := .pointer (some ⟨w.heap.size, 0, none⟩)) (vy := .int .i64 m.ae) rfl rfl rfl (by rw [HK.out]; exact index4 _ _ hk4 _))
  try simp only [Act.put, List.setIfInBounds_toArray, List.set_cons_zero, List.set_cons_succ]
  refine H.tk (i := 4) (v := ?v4x5) ?h4x5 hS ?_
  case h4x5 => (intro w hw; have c := PFA.out _ hw; go_simp; first | done | (with_reducible rfl))
  try simp only [Act.put, List.setIfInBounds_toArray, List.set_cons_zero, List.set_cons_succ]
  refine H.tk (i := 5) (v := (Value.int IntKind.i64 0)) (fun w _ => rfl) hS ?_
  try simp only [Act.put, List.setIfInBounds_toArray, List.set_cons_zero, List.set_cons_succ]
  refine H.tk (i := 6) (v := ?v6x7) ?h6x7 hS ?_
  case h6x7 => (intro w hw; go_simp; first | done | (with_reducible rfl))
  try simp only [Act.put, List.setIfInBounds_toArray, List.set_cons_zero, List.set_cons_succ]
  refine wpAnyH_done (by kernel_rfl) ?_ _
  have D := Lib.hid hS
  clear hS
  have c5 := D.out.m0.cs.c5
  have c7 := D.out.m0.cs.c7
  have nc1 := nil_eq (c.pf m.ae)
  have nc2 := nil_em (c.pf m.ae)
  have hw7 : wrap64 (m.plen + 7) = m.plen + 7 := IntWalk.wrap64_in _ ⟨by omega, by omega⟩
  by_cases hz : (c.pf m.ae).size = 0
  · have hz0 := hnone hz
    rw [hz0] at *
    rw [decide_eq_true hz] at nc1 nc2
    clear hz hmost hnone hz0 hlst hadr PFA HK hle10 hle10' hn1' hn2 hc
    generalize c.pf m.ae = pa at *
    by_cases h3 : m.ae = 3
    · have e3 : (m.ae == 3) = true := by simpa using h3
      clear h3 h0
      go_wp2_with fail
      refine (PA.out _ (HT.out.below D.out.bel)).mono ?_
      rintro r w9 ⟨rfl, hb⟩
      have HB := Lib.hid (bcall D.out.bel hb)
      clear hb
      go_wp2
      go_ret
      exact ⟨rfl, HB.out⟩
    have e3 : (m.ae == 3) = false := by simpa using h3
    clear h3 h0
    go_wp2_with fail
    refine (PA.out _ (HT.out.below D.out.bel)).mono ?_
    rintro r w9 ⟨rfl, hb⟩
    have HB := Lib.hid (bcall D.out.bel hb)
    clear hb
    go_wp2
    go_ret
    exact ⟨rfl, HB.out⟩
  rw [decide_eq_false hz] at nc1 nc2
  obtain ⟨q1, q2, q3, q4, q5⟩ := hmost hz
  have hbs : (baseN m.ae : Nat) = if m.ae = 3 then 8 else 0 := rfl
  obtain ⟨K, hK⟩ : ∃ K, K = baseN m.ae + omN c m := ⟨_, rfl⟩
  rw [← hK] at q1 q2 q3 q4 q5
  have s1 := K8h (c.pf m.ae) (K : Int) K rfl q2
  have s2 := K8h m.pfx (K : Int) K rfl q3
  rw [q4] at s1
  have qs := La.bytes_same (m.pfx.extract 0 K)
  have hq1 : (K : Int) ≤ (m.plen + 7) / 8 := by rw [← hlst]; omega
  have q5 : K = leastN m.plen ∨ (¬ K = leastN m.plen ∧ K < (c.pf m.ae).size ∧ K < m.pfx.size ∧ ¬ bt (c.pf m.ae) K = bt m.pfx K) := by
    rcases q5 with e | e
    · exact .inl e
    · by_cases e' : K = leastN m.plen
      · exact .inl e'
      · exact .inr ⟨e', e⟩
  have hKi : (K : Int) = (baseN m.ae : Nat) + (omN c m : Nat) := by omega
  have hKs : K ≤ 16 := by omega
  clear hK hz hmost hnone hadr q2 q3 q4 hle10 hle10' hn1' hn2 hc
  generalize omN c m = n at *
  generalize c.pf m.ae = pa at *
  generalize m.pfx.extract 0 K = px at *
  generalize leastN m.plen = lst at *
  by_cases h3 : m.ae = 3
  · rcases q5 with q5 | q5
    · have e3 : (m.ae == 3) = true := by simpa using h3
      rw [if_pos h3] at hbs
      rw [hbs] at hKi
      have k1 : IntKind.i64.wrap (8 + (n : Int)) = (K : Int) := by rw [IntWalk.i64_in _ (by omega)]; omega
      have ke : ((K : Int) == (m.plen + 7) / 8) = true := by rw [beq_iff_eq, ← hlst, q5]
      have KE := Lib.hid ke
      clear ke
      clear h3 h0 hbs hKi q1 hlst q5
      go_upto_region 16 with fail
      refine wp_region_held_drew (S := fun W => Vs w c m W) (by kernel_rfl) D.out.drew (fun hS => ?_)
      clear D c5 c7
      generalize Y0.drew = Z0 at *
      refine wpAnyH_ready (rs := [0]) (by kernel_rfl) (by simp) ?_
      refine AllReadyH.cons rfl (fun K hK => ?_) AllReadyH.nil
      go_simp
      refine (heldV (PA.out _ (HT.out.below hS.bel)) hS).mono ?_
      rintro e w0 ⟨rfl, hS0⟩
      refine hK.out _ _ hS0 (fun _ => ?_)
      clear hK K hS
      have hS := hS0
      clear hS0
      try simp only [Act.put, List.setIfInBounds_toArray, List.set_cons_zero, List.set_cons_succ]
      refine H.tk (i := 1) (v := (.bool true)) (fun w _ => rfl) hS ?_
      try simp only [Act.put, List.setIfInBounds_toArray, List.set_cons_zero, List.set_cons_succ]
      refine H.tk (i := 2) (v := ?v2ae) ?h2ae hS ?_
      case h2ae => (intro w hw; go_simp; first | done | (with_reducible rfl))
      try simp only [Act.put, List.setIfInBounds_toArray, List.set_cons_zero, List.set_cons_succ]
      refine H.tk (i := 3) (v := ?v3ae) ?h3ae hS ?_
      case h3ae => (intro w hw; go_simp; first | done | (with_reducible rfl))
      try simp only [Act.put, List.setIfInBounds_toArray, List.set_cons_zero, List.set_cons_succ]
      refine H.tk (i := 4) (v := .int .i64 (K : Int)) ?h4ae hS ?_
      case h4ae => exact (fun w hw => by go_simp)
      try simp only [Act.put, List.setIfInBounds_toArray, List.set_cons_zero, List.set_cons_succ]
      refine H.tk (i := 5) (v := ?v5ae) ?h5ae hS ?_
      case h5ae => (intro w hw; go_simp; first | done | (with_reducible rfl))
      try simp only [Act.put, List.setIfInBounds_toArray, List.set_cons_zero, List.set_cons_succ]
      refine H.tk (i := 6) (v := .bool true) ?h6ae hS ?_
      case h6ae => exact (fun w hw => by go_simp)
      try simp only [Act.put, List.setIfInBounds_toArray, List.set_cons_zero, List.set_cons_succ]
      refine H.tk (i := 7) (v := (.bool true)) (fun w _ => rfl) hS ?_
      try simp only [Act.put, List.setIfInBounds_toArray, List.set_cons_zero, List.set_cons_succ]
      refine H.tk (i := 8) (v := (.bool true)) (fun w _ => rfl) hS ?_
      try simp only [Act.put, List.setIfInBounds_toArray, List.set_cons_zero, List.set_cons_succ]
      refine H.tk (i := 9) (v := ?v9ae) ?h9ae hS ?_
      case h9ae => (intro w hw; go_simp; first | done | (with_reducible rfl))
      try simp only [Act.put, List.setIfInBounds_toArray, List.set_cons_zero, List.set_cons_succ]
      refine H.tk (i := 10) (v := ?v10ae) ?h10ae hS ?_
      case h10ae => (intro w hw; go_simp; first | done | (with_reducible rfl))
      try simp only [Act.put, List.setIfInBounds_toArray, List.set_cons_zero, List.set_cons_succ]
      refine H.tk (i := 11) (v := ?v11ae) ?h11ae hS ?_
      case h11ae => (intro w hw; go_simp; first | done | (with_reducible rfl))
      try simp only [Act.put, List.setIfInBounds_toArray, List.set_cons_zero, List.set_cons_succ]
      refine H.tk (i := 12) (v := .int .i64 (K : Int)) ?h12ae hS ?_
      case h12ae => exact (fun w hw => by go_simp)
      try simp only [Act.put, List.setIfInBounds_toArray, List.set_cons_zero, List.set_cons_succ]
      refine H.tk (i := 13) (v := .string px) ?h13ae hS ?_
      case h13ae => exact (fun w hw => by go_simp)
      try simp only [Act.put, List.setIfInBounds_toArray, List.set_cons_zero, List.set_cons_succ]
      refine H.tk (i := 14) (v := ?v14ae) ?h14ae hS ?_
      case h14ae => (intro w hw; go_simp; first | done | (with_reducible rfl))
      try simp only [Act.put, List.setIfInBounds_toArray, List.set_cons_zero, List.set_cons_succ]
      refine H.tk (i := 15) (v := ?v15ae) ?h15ae hS ?_
      case h15ae => (intro w hw; have c := (hw.m0).cs.c6; go_simp; first | done | (with_reducible rfl))
      try simp only [Act.put, List.setIfInBounds_toArray, List.set_cons_zero, List.set_cons_succ]
      refine H.tk (i := 16) (v := ?v16ae) ?h16ae hS ?_
      case h16ae => (intro w hw; go_simp; first | done | (with_reducible rfl))
      try simp only [Act.put, List.setIfInBounds_toArray, List.set_cons_zero, List.set_cons_succ]
      refine H.tk (i := 17) (v := ?v17ae) ?h17ae hS ?_
      case h17ae => (intro w hw; go_simp; first | done | (with_reducible rfl))
      try simp only [Act.put, List.setIfInBounds_toArray, List.set_cons_zero, List.set_cons_succ]
      refine H.tk (i := 18) (v := .int .i64 (K : Int)) ?h18ae hS ?_
      case h18ae => exact (fun w hw => by go_simp)
      try simp only [Act.put, List.setIfInBounds_toArray, List.set_cons_zero, List.set_cons_succ]
      refine H.tk (i := 19) (v := .string px) ?h19ae hS ?_
      case h19ae => exact (fun w hw => by go_simp)
      try simp only [Act.put, List.setIfInBounds_toArray, List.set_cons_zero, List.set_cons_succ]
      refine H.tk (i := 20) (v := .bool true) ?h20ae hS ?_
      case h20ae => exact (fun w hw => by go_simp)
      try simp only [Act.put, List.setIfInBounds_toArray, List.set_cons_zero, List.set_cons_succ]
      refine H.tk (i := 21) (v := (.bool true)) (fun w _ => rfl) hS ?_
      try simp only [Act.put, List.setIfInBounds_toArray, List.set_cons_zero, List.set_cons_succ]
      refine H.tk (i := 22) (v := (.bool true)) (fun w _ => rfl) hS ?_
      try simp only [Act.put, List.setIfInBounds_toArray, List.set_cons_zero, List.set_cons_succ]
      refine H.tk (i := 23) (v := ?v23ae) ?h23ae hS ?_
      case h23ae => (intro w hw; go_simp; first | done | (with_reducible rfl))
      try simp only [Act.put, List.setIfInBounds_toArray, List.set_cons_zero, List.set_cons_succ]
      refine H.tk (i := 24) (v := ?v24ae) ?h24ae hS ?_
      case h24ae => (intro w hw; go_simp; first | done | (with_reducible rfl))
      try simp only [Act.put, List.setIfInBounds_toArray, List.set_cons_zero, List.set_cons_succ]
      refine H.tk (i := 25) (v := .int .i64 (K : Int)) ?h25ae hS ?_
      case h25ae => exact (fun w hw => by go_simp)
      try simp only [Act.put, List.setIfInBounds_toArray, List.set_cons_zero, List.set_cons_succ]
      refine H.tk (i := 26) (v := ?v26ae) ?h26ae hS ?_
      case h26ae => (intro w hw; go_simp; first | done | (with_reducible rfl))
      try simp only [Act.put, List.setIfInBounds_toArray, List.set_cons_zero, List.set_cons_succ]
      refine H.tk (i := 27) (v := .bool true) ?h27ae hS ?_
      case h27ae => exact (fun w hw => by have c := KE.out; go_simp)
      try simp only [Act.put, List.setIfInBounds_toArray, List.set_cons_zero, List.set_cons_succ]
      refine H.tk (i := 28) (v := (.bool true)) (fun w _ => rfl) hS ?_
      try simp only [Act.put, List.setIfInBounds_toArray, List.set_cons_zero, List.set_cons_succ]
      refine H.sk (i := 29) (d := 141) hS ?_
      try simp only [Act.put, List.setIfInBounds_toArray, List.set_cons_zero, List.set_cons_succ]
      refine H.sk (i := 30) (d := 142) hS ?_
      try simp only [Act.put, List.setIfInBounds_toArray, List.set_cons_zero, List.set_cons_succ]
      refine H.sk (i := 31) (d := 143) hS ?_
      try simp only [Act.put, List.setIfInBounds_toArray, List.set_cons_zero, List.set_cons_succ]
      refine H.sk (i := 32) (d := 144) hS ?_
      try simp only [Act.put, List.setIfInBounds_toArray, List.set_cons_zero, List.set_cons_succ]
      refine H.sk (i := 33) (d := 145) hS ?_
      try simp only [Act.put, List.setIfInBounds_toArray, List.set_cons_zero, List.set_cons_succ]
      refine H.sk (i := 34) (d := 146) hS ?_
      try simp only [Act.put, List.setIfInBounds_toArray, List.set_cons_zero, List.set_cons_succ]
      refine H.sk (i := 35) (d := 147) hS ?_
      try simp only [Act.put, List.setIfInBounds_toArray, List.set_cons_zero, List.set_cons_succ]
      refine H.sk (i := 36) (d := 148) hS ?_
      try simp only [Act.put, List.setIfInBounds_toArray, List.set_cons_zero, List.set_cons_succ]
      refine H.sk (i := 37) (d := 149) hS ?_
      try simp only [Act.put, List.setIfInBounds_toArray, List.set_cons_zero, List.set_cons_succ]
      refine H.sk (i := 38) (d := 150) hS ?_
      try simp only [Act.put, List.setIfInBounds_toArray, List.set_cons_zero, List.set_cons_succ]
      refine H.sk (i := 39) (d := 151) hS ?_
      try simp only [Act.put, List.setIfInBounds_toArray, List.set_cons_zero, List.set_cons_succ]
      refine H.sk (i := 40) (d := 152) hS ?_
      try simp only [Act.put, List.setIfInBounds_toArray, List.set_cons_zero, List.set_cons_succ]
      refine H.tk (i := 41) (v := (Value.bool true)) (fun w _ => rfl) hS ?_
      try simp only [Act.put, List.setIfInBounds_toArray, List.set_cons_zero, List.set_cons_succ]
      refine H.tk (i := 42) (v := (Value.bool true)) (fun w _ => rfl) hS ?_
      try simp only [Act.put, List.setIfInBounds_toArray, List.set_cons_zero, List.set_cons_succ]
      refine H.tk (i := 43) (v := (Value.bool true)) (fun w _ => rfl) hS ?_
      try simp only [Act.put, List.setIfInBounds_toArray, List.set_cons_zero, List.set_cons_succ]
      refine wpAnyH_done (by kernel_rfl) ?_ _
      go_wp2
      go_ret
      exact ⟨rfl, hS.bel⟩
    · have e3 : (m.ae == 3) = true := by simpa using h3
      rw [if_pos h3] at hbs
      rw [hbs] at hKi
      have k1 : IntKind.i64.wrap (8 + (n : Int)) = (K : Int) := by rw [IntWalk.i64_in _ (by omega)]; omega
      have ke : ((K : Int) == (m.plen + 7) / 8) = false := by rw [beq_eq_false_iff_ne, ← hlst]; omega
      have x1 := idx pa (K : Nat) (K : Int) rfl q5.2.1
      have x2 := idx m.pfx (K : Nat) (K : Int) rfl q5.2.2.1
      have x3 : ¬ bt pa K = bt m.pfx K := q5.2.2.2
      generalize bt pa K = ba at *
      generalize bt m.pfx K = bp at *
      clear h3 h0 hbs hKi q1 hlst q5
      go_upto_region 16 with fail
      refine wp_region_held_drew (S := fun W => Vs w c m W) (by kernel_rfl) D.out.drew (fun hS => ?_)
      clear D c5 c7
      generalize Y0.drew = Z0 at *
      refine wpAnyH_ready (rs := [0]) (by kernel_rfl) (by simp) ?_
      refine AllReadyH.cons rfl (fun K hK => ?_) AllReadyH.nil
      go_simp
      refine (heldV (PA.out _ (HT.out.below hS.bel)) hS).mono ?_
      rintro e w0 ⟨rfl, hS0⟩
      refine hK.out _ _ hS0 (fun _ => ?_)
      clear hK K hS
      have hS := hS0
      clear hS0
      try simp only [Act.put, List.setIfInBounds_toArray, List.set_cons_zero, List.set_cons_succ]
      refine H.tk (i := 1) (v := (.bool true)) (fun w _ => rfl) hS ?_
      try simp only [Act.put, List.setIfInBounds_toArray, List.set_cons_zero, List.set_cons_succ]
      refine H.tk (i := 2) (v := ?v2an) ?h2an hS ?_
      case h2an => (intro w hw; go_simp; first | done | (with_reducible rfl))
      try simp only [Act.put, List.setIfInBounds_toArray, List.set_cons_zero, List.set_cons_succ]
      refine H.tk (i := 3) (v := ?v3an) ?h3an hS ?_
      case h3an => (intro w hw; go_simp; first | done | (with_reducible rfl))
      try simp only [Act.put, List.setIfInBounds_toArray, List.set_cons_zero, List.set_cons_succ]
      refine H.tk (i := 4) (v := .int .i64 (K : Int)) ?h4an hS ?_
      case h4an => exact (fun w hw => by go_simp)
      try simp only [Act.put, List.setIfInBounds_toArray, List.set_cons_zero, List.set_cons_succ]
      refine H.tk (i := 5) (v := ?v5an) ?h5an hS ?_
      case h5an => (intro w hw; go_simp; first | done | (with_reducible rfl))
      try simp only [Act.put, List.setIfInBounds_toArray, List.set_cons_zero, List.set_cons_succ]
      refine H.tk (i := 6) (v := .bool true) ?h6an hS ?_
      case h6an => exact (fun w hw => by go_simp)
      try simp only [Act.put, List.setIfInBounds_toArray, List.set_cons_zero, List.set_cons_succ]
      refine H.tk (i := 7) (v := (.bool true)) (fun w _ => rfl) hS ?_
      try simp only [Act.put, List.setIfInBounds_toArray, List.set_cons_zero, List.set_cons_succ]
      refine H.tk (i := 8) (v := (.bool true)) (fun w _ => rfl) hS ?_
      try simp only [Act.put, List.setIfInBounds_toArray, List.set_cons_zero, List.set_cons_succ]
      refine H.tk (i := 9) (v := ?v9an) ?h9an hS ?_
      case h9an => (intro w hw; go_simp; first | done | (with_reducible rfl))
      try simp only [Act.put, List.setIfInBounds_toArray, List.set_cons_zero, List.set_cons_succ]
      refine H.tk (i := 10) (v := ?v10an) ?h10an hS ?_
      case h10an => (intro w hw; go_simp; first | done | (with_reducible rfl))
      try simp only [Act.put, List.setIfInBounds_toArray, List.set_cons_zero, List.set_cons_succ]
      refine H.tk (i := 11) (v := ?v11an) ?h11an hS ?_
      case h11an => (intro w hw; go_simp; first | done | (with_reducible rfl))
      try simp only [Act.put, List.setIfInBounds_toArray, List.set_cons_zero, List.set_cons_succ]
      refine H.tk (i := 12) (v := .int .i64 (K : Int)) ?h12an hS ?_
      case h12an => exact (fun w hw => by go_simp)
      try simp only [Act.put, List.setIfInBounds_toArray, List.set_cons_zero, List.set_cons_succ]
      refine H.tk (i := 13) (v := .string px) ?h13an hS ?_
      case h13an => exact (fun w hw => by go_simp)
      try simp only [Act.put, List.setIfInBounds_toArray, List.set_cons_zero, List.set_cons_succ]
      refine H.tk (i := 14) (v := ?v14an) ?h14an hS ?_
      case h14an => (intro w hw; go_simp; first | done | (with_reducible rfl))
      try simp only [Act.put, List.setIfInBounds_toArray, List.set_cons_zero, List.set_cons_succ]
      refine H.tk (i := 15) (v := ?v15an) ?h15an hS ?_
      case h15an => (intro w hw; have c := (hw.m0).cs.c6; go_simp; first | done | (with_reducible rfl))
      try simp only [Act.put, List.setIfInBounds_toArray, List.set_cons_zero, List.set_cons_succ]
      refine H.tk (i := 16) (v := ?v16an) ?h16an hS ?_
      case h16an => (intro w hw; go_simp; first | done | (with_reducible rfl))
      try simp only [Act.put, List.setIfInBounds_toArray, List.set_cons_zero, List.set_cons_succ]
      refine H.tk (i := 17) (v := ?v17an) ?h17an hS ?_
      case h17an => (intro w hw; go_simp; first | done | (with_reducible rfl))
      try simp only [Act.put, List.setIfInBounds_toArray, List.set_cons_zero, List.set_cons_succ]
      refine H.tk (i := 18) (v := .int .i64 (K : Int)) ?h18an hS ?_
      case h18an => exact (fun w hw => by go_simp)
      try simp only [Act.put, List.setIfInBounds_toArray, List.set_cons_zero, List.set_cons_succ]
      refine H.tk (i := 19) (v := .string px) ?h19an hS ?_
      case h19an => exact (fun w hw => by go_simp)
      try simp only [Act.put, List.setIfInBounds_toArray, List.set_cons_zero, List.set_cons_succ]
      refine H.tk (i := 20) (v := .bool true) ?h20an hS ?_
      case h20an => exact (fun w hw => by go_simp)
      try simp only [Act.put, List.setIfInBounds_toArray, List.set_cons_zero, List.set_cons_succ]
      refine H.tk (i := 21) (v := (.bool true)) (fun w _ => rfl) hS ?_
      try simp only [Act.put, List.setIfInBounds_toArray, List.set_cons_zero, List.set_cons_succ]
      refine H.tk (i := 22) (v := (.bool true)) (fun w _ => rfl) hS ?_
      try simp only [Act.put, List.setIfInBounds_toArray, List.set_cons_zero, List.set_cons_succ]
      refine H.tk (i := 23) (v := ?v23an) ?h23an hS ?_
      case h23an => (intro w hw; go_simp; first | done | (with_reducible rfl))
      try simp only [Act.put, List.setIfInBounds_toArray, List.set_cons_zero, List.set_cons_succ]
      refine H.tk (i := 24) (v := ?v24an) ?h24an hS ?_
      case h24an => (intro w hw; go_simp; first | done | (with_reducible rfl))
      try simp only [Act.put, List.setIfInBounds_toArray, List.set_cons_zero, List.set_cons_succ]
      refine H.tk (i := 25) (v := .int .i64 (K : Int)) ?h25an hS ?_
      case h25an => exact (fun w hw => by go_simp)
      try simp only [Act.put, List.setIfInBounds_toArray, List.set_cons_zero, List.set_cons_succ]
      refine H.tk (i := 26) (v := ?v26an) ?h26an hS ?_
      case h26an => (intro w hw; go_simp; first | done | (with_reducible rfl))
      try simp only [Act.put, List.setIfInBounds_toArray, List.set_cons_zero, List.set_cons_succ]
      refine H.tk (i := 27) (v := .bool false) ?h27an hS ?_
      case h27an => exact (fun w hw => by go_simp)
      try simp only [Act.put, List.setIfInBounds_toArray, List.set_cons_zero, List.set_cons_succ]
      refine H.tk (i := 28) (v := (.bool false)) (fun w _ => rfl) hS ?_
      try simp only [Act.put, List.setIfInBounds_toArray, List.set_cons_zero, List.set_cons_succ]
      refine H.tk (i := 29) (v := ?v29an) ?h29an hS ?_
      case h29an => (intro w hw; go_simp; first | done | (with_reducible rfl))
      try simp only [Act.put, List.setIfInBounds_toArray, List.set_cons_zero, List.set_cons_succ]
      refine H.tk (i := 30) (v := ?v30an) ?h30an hS ?_
      case h30an => (intro w hw; go_simp; first | done | (with_reducible rfl))
      try simp only [Act.put, List.setIfInBounds_toArray, List.set_cons_zero, List.set_cons_succ]
      refine H.tk (i := 31) (v := ?v31an) ?h31an hS ?_
      case h31an => (intro w hw; go_simp; first | done | (with_reducible rfl))
      try simp only [Act.put, List.setIfInBounds_toArray, List.set_cons_zero, List.set_cons_succ]
      refine H.tk (i := 32) (v := .int .i64 (K : Int)) ?h32an hS ?_
      case h32an => exact (fun w hw => by go_simp)
      try simp only [Act.put, List.setIfInBounds_toArray, List.set_cons_zero, List.set_cons_succ]
      refine H.tk (i := 33) (v := .int .u8 ba) ?h33an hS ?_
      case h33an => exact (fun w hw => by go_simp)
      try simp only [Act.put, List.setIfInBounds_toArray, List.set_cons_zero, List.set_cons_succ]
      refine H.tk (i := 34) (v := ?v34an) ?h34an hS ?_
      case h34an => (intro w hw; go_simp; first | done | (with_reducible rfl))
      try simp only [Act.put, List.setIfInBounds_toArray, List.set_cons_zero, List.set_cons_succ]
      refine H.tk (i := 35) (v := ?v35an) ?h35an hS ?_
      case h35an => (intro w hw; have c := (hw.m0).cs.c6; go_simp; first | done | (with_reducible rfl))
      try simp only [Act.put, List.setIfInBounds_toArray, List.set_cons_zero, List.set_cons_succ]
      refine H.tk (i := 36) (v := ?v36an) ?h36an hS ?_
      case h36an => (intro w hw; go_simp; first | done | (with_reducible rfl))
      try simp only [Act.put, List.setIfInBounds_toArray, List.set_cons_zero, List.set_cons_succ]
      refine H.tk (i := 37) (v := ?v37an) ?h37an hS ?_
      case h37an => (intro w hw; go_simp; first | done | (with_reducible rfl))
      try simp only [Act.put, List.setIfInBounds_toArray, List.set_cons_zero, List.set_cons_succ]
      refine H.tk (i := 38) (v := .int .i64 (K : Int)) ?h38an hS ?_
      case h38an => exact (fun w hw => by go_simp)
      try simp only [Act.put, List.setIfInBounds_toArray, List.set_cons_zero, List.set_cons_succ]
      refine H.tk (i := 39) (v := .int .u8 bp) ?h39an hS ?_
      case h39an => exact (fun w hw => by go_simp)
      try simp only [Act.put, List.setIfInBounds_toArray, List.set_cons_zero, List.set_cons_succ]
      refine H.tk (i := 40) (v := .bool true) ?h40an hS ?_
      case h40an => exact (fun w hw => by go_simp)
      try simp only [Act.put, List.setIfInBounds_toArray, List.set_cons_zero, List.set_cons_succ]
      refine H.tk (i := 41) (v := (.bool true)) (fun w _ => rfl) hS ?_
      try simp only [Act.put, List.setIfInBounds_toArray, List.set_cons_zero, List.set_cons_succ]
      refine H.tk (i := 42) (v := (.bool true)) (fun w _ => rfl) hS ?_
      try simp only [Act.put, List.setIfInBounds_toArray, List.set_cons_zero, List.set_cons_succ]
      refine H.tk (i := 43) (v := (.bool true)) (fun w _ => rfl) hS ?_
      try simp only [Act.put, List.setIfInBounds_toArray, List.set_cons_zero, List.set_cons_succ]
      refine wpAnyH_done (by kernel_rfl) ?_ _
      go_wp2
      go_ret
      exact ⟨rfl, hS.bel⟩
  rcases q5 with q5 | q5
  · have e3 : (m.ae == 3) = false := by simpa using h3
    rw [if_neg h3] at hbs
    rw [hbs] at hKi
    have k1 : IntKind.i64.wrap (0 + (n : Int)) = (K : Int) := by rw [IntWalk.i64_in _ (by omega)]; omega
    have k2 : IntKind.i64.wrap ((n : Int)) = (K : Int) := by rw [IntWalk.i64_in _ (by omega)]; omega
    have ke : ((K : Int) == (m.plen + 7) / 8) = true := by rw [beq_iff_eq, ← hlst, q5]
    have KE := Lib.hid ke
    clear ke
    clear h3 h0 hbs hKi q1 hlst q5
    go_upto_region 16 with fail
    refine wp_region_held_drew (S := fun W => Vs w c m W) (by kernel_rfl) D.out.drew (fun hS => ?_)
    clear D c5 c7
    generalize Y0.drew = Z0 at *
    refine wpAnyH_ready (rs := [0]) (by kernel_rfl) (by simp) ?_
    refine AllReadyH.cons rfl (fun K hK => ?_) AllReadyH.nil
    go_simp
    refine (heldV (PA.out _ (HT.out.below hS.bel)) hS).mono ?_
    rintro e w0 ⟨rfl, hS0⟩
    refine hK.out _ _ hS0 (fun _ => ?_)
    clear hK K hS
    have hS := hS0
    clear hS0
    try simp only [Act.put, List.setIfInBounds_toArray, List.set_cons_zero, List.set_cons_succ]
    refine H.tk (i := 1) (v := (.bool true)) (fun w _ => rfl) hS ?_
    try simp only [Act.put, List.setIfInBounds_toArray, List.set_cons_zero, List.set_cons_succ]
    refine H.tk (i := 2) (v := ?v2be) ?h2be hS ?_
    case h2be => (intro w hw; go_simp; first | done | (with_reducible rfl))
    try simp only [Act.put, List.setIfInBounds_toArray, List.set_cons_zero, List.set_cons_succ]
    refine H.tk (i := 3) (v := ?v3be) ?h3be hS ?_
    case h3be => (intro w hw; go_simp; first | done | (with_reducible rfl))
    try simp only [Act.put, List.setIfInBounds_toArray, List.set_cons_zero, List.set_cons_succ]
    refine H.tk (i := 4) (v := .int .i64 (K : Int)) ?h4be hS ?_
    case h4be => exact (fun w hw => by go_simp)
    try simp only [Act.put, List.setIfInBounds_toArray, List.set_cons_zero, List.set_cons_succ]
    refine H.tk (i := 5) (v := ?v5be) ?h5be hS ?_
    case h5be => (intro w hw; go_simp; first | done | (with_reducible rfl))
    try simp only [Act.put, List.setIfInBounds_toArray, List.set_cons_zero, List.set_cons_succ]
    refine H.tk (i := 6) (v := .bool true) ?h6be hS ?_
    case h6be => exact (fun w hw => by go_simp)
    try simp only [Act.put, List.setIfInBounds_toArray, List.set_cons_zero, List.set_cons_succ]
    refine H.tk (i := 7) (v := (.bool true)) (fun w _ => rfl) hS ?_
    try simp only [Act.put, List.setIfInBounds_toArray, List.set_cons_zero, List.set_cons_succ]
    refine H.tk (i := 8) (v := (.bool true)) (fun w _ => rfl) hS ?_
    try simp only [Act.put, List.setIfInBounds_toArray, List.set_cons_zero, List.set_cons_succ]
    refine H.tk (i := 9) (v := ?v9be) ?h9be hS ?_
    case h9be => (intro w hw; go_simp; first | done | (with_reducible rfl))
    try simp only [Act.put, List.setIfInBounds_toArray, List.set_cons_zero, List.set_cons_succ]
    refine H.tk (i := 10) (v := ?v10be) ?h10be hS ?_
    case h10be => (intro w hw; go_simp; first | done | (with_reducible rfl))
    try simp only [Act.put, List.setIfInBounds_toArray, List.set_cons_zero, List.set_cons_succ]
    refine H.tk (i := 11) (v := ?v11be) ?h11be hS ?_
    case h11be => (intro w hw; go_simp; first | done | (with_reducible rfl))
    try simp only [Act.put, List.setIfInBounds_toArray, List.set_cons_zero, List.set_cons_succ]
    refine H.tk (i := 12) (v := .int .i64 (K : Int)) ?h12be hS ?_
    case h12be => exact (fun w hw => by go_simp)
    try simp only [Act.put, List.setIfInBounds_toArray, List.set_cons_zero, List.set_cons_succ]
    refine H.tk (i := 13) (v := .string px) ?h13be hS ?_
    case h13be => exact (fun w hw => by go_simp)
    try simp only [Act.put, List.setIfInBounds_toArray, List.set_cons_zero, List.set_cons_succ]
    refine H.tk (i := 14) (v := ?v14be) ?h14be hS ?_
    case h14be => (intro w hw; go_simp; first | done | (with_reducible rfl))
    try simp only [Act.put, List.setIfInBounds_toArray, List.set_cons_zero, List.set_cons_succ]
    refine H.tk (i := 15) (v := ?v15be) ?h15be hS ?_
    case h15be => (intro w hw; have c := (hw.m0).cs.c6; go_simp; first | done | (with_reducible rfl))
    try simp only [Act.put, List.setIfInBounds_toArray, List.set_cons_zero, List.set_cons_succ]
    refine H.tk (i := 16) (v := ?v16be) ?h16be hS ?_
    case h16be => (intro w hw; go_simp; first | done | (with_reducible rfl))
    try simp only [Act.put, List.setIfInBounds_toArray, List.set_cons_zero, List.set_cons_succ]
    refine H.tk (i := 17) (v := ?v17be) ?h17be hS ?_
    case h17be => (intro w hw; go_simp; first | done | (with_reducible rfl))
    try simp only [Act.put, List.setIfInBounds_toArray, List.set_cons_zero, List.set_cons_succ]
    refine H.tk (i := 18) (v := .int .i64 (K : Int)) ?h18be hS ?_
    case h18be => exact (fun w hw => by go_simp)
    try simp only [Act.put, List.setIfInBounds_toArray, List.set_cons_zero, List.set_cons_succ]
    refine H.tk (i := 19) (v := .string px) ?h19be hS ?_
    case h19be => exact (fun w hw => by go_simp)
    try simp only [Act.put, List.setIfInBounds_toArray, List.set_cons_zero, List.set_cons_succ]
    refine H.tk (i := 20) (v := .bool true) ?h20be hS ?_
    case h20be => exact (fun w hw => by go_simp)
    try simp only [Act.put, List.setIfInBounds_toArray, List.set_cons_zero, List.set_cons_succ]
    refine H.tk (i := 21) (v := (.bool true)) (fun w _ => rfl) hS ?_
    try simp only [Act.put, List.setIfInBounds_toArray, List.set_cons_zero, List.set_cons_succ]
    refine H.tk (i := 22) (v := (.bool true)) (fun w _ => rfl) hS ?_
    try simp only [Act.put, List.setIfInBounds_toArray, List.set_cons_zero, List.set_cons_succ]
    refine H.tk (i := 23) (v := ?v23be) ?h23be hS ?_
    case h23be => (intro w hw; go_simp; first | done | (with_reducible rfl))
    try simp only [Act.put, List.setIfInBounds_toArray, List.set_cons_zero, List.set_cons_succ]
    refine H.tk (i := 24) (v := ?v24be) ?h24be hS ?_
    case h24be => (intro w hw; go_simp; first | done | (with_reducible rfl))
    try simp only [Act.put, List.setIfInBounds_toArray, List.set_cons_zero, List.set_cons_succ]
    refine H.tk (i := 25) (v := .int .i64 (K : Int)) ?h25be hS ?_
    case h25be => exact (fun w hw => by go_simp)
    try simp only [Act.put, List.setIfInBounds_toArray, List.set_cons_zero, List.set_cons_succ]
    refine H.tk (i := 26) (v := ?v26be) ?h26be hS ?_
    case h26be => (intro w hw; go_simp; first | done | (with_reducible rfl))
    try simp only [Act.put, List.setIfInBounds_toArray, List.set_cons_zero, List.set_cons_succ]
    refine H.tk (i := 27) (v := .bool true) ?h27be hS ?_
    case h27be => exact (fun w hw => by have c := KE.out; go_simp)
    try simp only [Act.put, List.setIfInBounds_toArray, List.set_cons_zero, List.set_cons_succ]
    refine H.tk (i := 28) (v := (.bool true)) (fun w _ => rfl) hS ?_
    try simp only [Act.put, List.setIfInBounds_toArray, List.set_cons_zero, List.set_cons_succ]
    refine H.sk (i := 29) (d := 141) hS ?_
    try simp only [Act.put, List.setIfInBounds_toArray, List.set_cons_zero, List.set_cons_succ]
    refine H.sk (i := 30) (d := 142) hS ?_
    try simp only [Act.put, List.setIfInBounds_toArray, List.set_cons_zero, List.set_cons_succ]
    refine H.sk (i := 31) (d := 143) hS ?_
    try simp only [Act.put, List.setIfInBounds_toArray, List.set_cons_zero, List.set_cons_succ]
    refine H.sk (i := 32) (d := 144) hS ?_
    try simp only [Act.put, List.setIfInBounds_toArray, List.set_cons_zero, List.set_cons_succ]
    refine H.sk (i := 33) (d := 145) hS ?_
    try simp only [Act.put, List.setIfInBounds_toArray, List.set_cons_zero, List.set_cons_succ]
    refine H.sk (i := 34) (d := 146) hS ?_
    try simp only [Act.put, List.setIfInBounds_toArray, List.set_cons_zero, List.set_cons_succ]
    refine H.sk (i := 35) (d := 147) hS ?_
    try simp only [Act.put, List.setIfInBounds_toArray, List.set_cons_zero, List.set_cons_succ]
    refine H.sk (i := 36) (d := 148) hS ?_
    try simp only [Act.put, List.setIfInBounds_toArray, List.set_cons_zero, List.set_cons_succ]
    refine H.sk (i := 37) (d := 149) hS ?_
    try simp only [Act.put, List.setIfInBounds_toArray, List.set_cons_zero, List.set_cons_succ]
    refine H.sk (i := 38) (d := 150) hS ?_
    try simp only [Act.put, List.setIfInBounds_toArray, List.set_cons_zero, List.set_cons_succ]
    refine H.sk (i := 39) (d := 151) hS ?_
    try simp only [Act.put, List.setIfInBounds_toArray, List.set_cons_zero, List.set_cons_succ]
    refine H.sk (i := 40) (d := 152) hS ?_
    try simp only [Act.put, List.setIfInBounds_toArray, List.set_cons_zero, List.set_cons_succ]
    refine H.tk (i := 41) (v := (Value.bool true)) (fun w _ => rfl) hS ?_
    try simp only [Act.put, List.setIfInBounds_toArray, List.set_cons_zero, List.set_cons_succ]
    refine H.tk (i := 42) (v := (Value.bool true)) (fun w _ => rfl) hS ?_
    try simp only [Act.put, List.setIfInBounds_toArray, List.set_cons_zero, List.set_cons_succ]
    refine H.tk (i := 43) (v := (Value.bool true)) (fun w _ => rfl) hS ?_
    try simp only [Act.put, List.setIfInBounds_toArray, List.set_cons_zero, List.set_cons_succ]
    refine wpAnyH_done (by kernel_rfl) ?_ _
    go_wp2
    go_ret
    exact ⟨rfl, hS.bel⟩
  · have e3 : (m.ae == 3) = false := by simpa using h3
    rw [if_neg h3] at hbs
    rw [hbs] at hKi
    have k1 : IntKind.i64.wrap (0 + (n : Int)) = (K : Int) := by rw [IntWalk.i64_in _ (by omega)]; omega
    have k2 : IntKind.i64.wrap ((n : Int)) = (K : Int) := by rw [IntWalk.i64_in _ (by omega)]; omega
    have ke : ((K : Int) == (m.plen + 7) / 8) = false := by rw [beq_eq_false_iff_ne, ← hlst]; omega
    have x1 := idx pa (K : Nat) (K : Int) rfl q5.2.1
    have x2 := idx m.pfx (K : Nat) (K : Int) rfl q5.2.2.1
    have x3 : ¬ bt pa K = bt m.pfx K := q5.2.2.2
    generalize bt pa K = ba at *
    generalize bt m.pfx K = bp at *
    clear h3 h0 hbs hKi q1 hlst q5
    go_upto_region 16 with fail
    refine wp_region_held_drew (S := fun W => Vs w c m W) (by kernel_rfl) D.out.drew (fun hS => ?_)
    clear D c5 c7
    generalize Y0.drew = Z0 at *
    refine wpAnyH_ready (rs := [0]) (by kernel_rfl) (by simp) ?_
    refine AllReadyH.cons rfl (fun K hK => ?_) AllReadyH.nil
    go_simp
    refine (heldV (PA.out _ (HT.out.below hS.bel)) hS).mono ?_
    rintro e w0 ⟨rfl, hS0⟩
    refine hK.out _ _ hS0 (fun _ => ?_)
    clear hK K hS
    have hS := hS0
    clear hS0
    try simp only [Act.put, List.setIfInBounds_toArray, List.set_cons_zero, List.set_cons_succ]
    refine H.tk (i := 1) (v := (.bool true)) (fun w _ => rfl) hS ?_
    try simp only [Act.put, List.setIfInBounds_toArray, List.set_cons_zero, List.set_cons_succ]
    refine H.tk (i := 2) (v := ?v2bn) ?h2bn hS ?_
    case h2bn => (intro w hw; go_simp; first | done | (with_reducible rfl))
    try simp only [Act.put, List.setIfInBounds_toArray, List.set_cons_zero, List.set_cons_succ]
    refine H.tk (i := 3) (v := ?v3bn) ?h3bn hS ?_
    case h3bn => (intro w hw; go_simp; first | done | (with_reducible rfl))
    try simp only [Act.put, List.setIfInBounds_toArray, List.set_cons_zero, List.set_cons_succ]
    refine H.tk (i := 4) (v := .int .i64 (K : Int)) ?h4bn hS ?_
    case h4bn => exact (fun w hw => by go_simp)
    try simp only [Act.put, List.setIfInBounds_toArray, List.set_cons_zero, List.set_cons_succ]
    refine H.tk (i := 5) (v := ?v5bn) ?h5bn hS ?_
    case h5bn => (intro w hw; go_simp; first | done | (with_reducible rfl))
    try simp only [Act.put, List.setIfInBounds_toArray, List.set_cons_zero, List.set_cons_succ]
    refine H.tk (i := 6) (v := .bool true) ?h6bn hS ?_
    case h6bn => exact (fun w hw => by go_simp)
    try simp only [Act.put, List.setIfInBounds_toArray, List.set_cons_zero, List.set_cons_succ]
    refine H.tk (i := 7) (v := (.bool true)) (fun w _ => rfl) hS ?_
    try simp only [Act.put, List.setIfInBounds_toArray, List.set_cons_zero, List.set_cons_succ]
    refine H.tk (i := 8) (v := (.bool true)) (fun w _ => rfl) hS ?_
    try simp only [Act.put, List.setIfInBounds_toArray, List.set_cons_zero, List.set_cons_succ]
    refine H.tk (i := 9) (v := ?v9bn) ?h9bn hS ?_
    case h9bn => (intro w hw; go_simp; first | done | (with_reducible rfl))
    try simp only [Act.put, List.setIfInBounds_toArray, List.set_cons_zero, List.set_cons_succ]
    refine H.tk (i := 10) (v := ?v10bn) ?h10bn hS ?_
    case h10bn => (intro w hw; go_simp; first | done | (with_reducible rfl))
    try simp only [Act.put, List.setIfInBounds_toArray, List.set_cons_zero, List.set_cons_succ]
    refine H.tk (i := 11) (v := ?v11bn) ?h11bn hS ?_
    case h11bn => (intro w hw; go_simp; first | done | (with_reducible rfl))
    try simp only [Act.put, List.setIfInBounds_toArray, List.set_cons_zero, List.set_cons_succ]
    refine H.tk (i := 12) (v := .int .i64 (K : Int)) ?h12bn hS ?_
    case h12bn => exact (fun w hw => by go_simp)
    try simp only [Act.put, List.setIfInBounds_toArray, List.set_cons_zero, List.set_cons_succ]
    refine H.tk (i := 13) (v := .string px) ?h13bn hS ?_
    case h13bn => exact (fun w hw => by go_simp)
    try simp only [Act.put, List.setIfInBounds_toArray, List.set_cons_zero, List.set_cons_succ]
    refine H.tk (i := 14) (v := ?v14bn) ?h14bn hS ?_
    case h14bn => (intro w hw; go_simp; first | done | (with_reducible rfl))
    try simp only [Act.put, List.setIfInBounds_toArray, List.set_cons_zero, List.set_cons_succ]
    refine H.tk (i := 15) (v := ?v15bn) ?h15bn hS ?_
    case h15bn => (intro w hw; have c := (hw.m0).cs.c6; go_simp; first | done | (with_reducible rfl))
    try simp only [Act.put, List.setIfInBounds_toArray, List.set_cons_zero, List.set_cons_succ]
    refine H.tk (i := 16) (v := ?v16bn) ?h16bn hS ?_
    case h16bn => (intro w hw; go_simp; first | done | (with_reducible rfl))
    try simp only [Act.put, List.setIfInBounds_toArray, List.set_cons_zero, List.set_cons_succ]
    refine H.tk (i := 17) (v := ?v17bn) ?h17bn hS ?_
    case h17bn => (intro w hw; go_simp; first | done | (with_reducible rfl))
    try simp only [Act.put, List.setIfInBounds_toArray, List.set_cons_zero, List.set_cons_succ]
    refine H.tk (i := 18) (v := .int .i64 (K : Int)) ?h18bn hS ?_
    case h18bn => exact (fun w hw => by go_simp)
    try simp only [Act.put, List.setIfInBounds_toArray, List.set_cons_zero, List.set_cons_succ]
    refine H.tk (i := 19) (v := .string px) ?h19bn hS ?_
    case h19bn => exact (fun w hw => by go_simp)
    try simp only [Act.put, List.setIfInBounds_toArray, List.set_cons_zero, List.set_cons_succ]
    refine H.tk (i := 20) (v := .bool true) ?h20bn hS ?_
    case h20bn => exact (fun w hw => by go_simp)
    try simp only [Act.put, List.setIfInBounds_toArray, List.set_cons_zero, List.set_cons_succ]
    refine H.tk (i := 21) (v := (.bool true)) (fun w _ => rfl) hS ?_
    try simp only [Act.put, List.setIfInBounds_toArray, List.set_cons_zero, List.set_cons_succ]
    refine H.tk (i := 22) (v := (.bool true)) (fun w _ => rfl) hS ?_
    try simp only [Act.put, List.setIfInBounds_toArray, List.set_cons_zero, List.set_cons_succ]
    refine H.tk (i := 23) (v := ?v23bn) ?h23bn hS ?_
    case h23bn => (intro w hw; go_simp; first | done | (with_reducible rfl))
    try simp only [Act.put, List.setIfInBounds_toArray, List.set_cons_zero, List.set_cons_succ]
    refine H.tk (i := 24) (v := ?v24bn) ?h24bn hS ?_
    case h24bn => (intro w hw; go_simp; first | done | (with_reducible rfl))
    try simp only [Act.put, List.setIfInBounds_toArray, List.set_cons_zero, List.set_cons_succ]
    refine H.tk (i := 25) (v := .int .i64 (K : Int)) ?h25bn hS ?_
    case h25bn => exact (fun w hw => by go_simp)
    try simp only [Act.put, List.setIfInBounds_toArray, List.set_cons_zero, List.set_cons_succ]
    refine H.tk (i := 26) (v := ?v26bn) ?h26bn hS ?_
    case h26bn => (intro w hw; go_simp; first | done | (with_reducible rfl))
    try simp only [Act.put, List.setIfInBounds_toArray, List.set_cons_zero, List.set_cons_succ]
    refine H.tk (i := 27) (v := .bool false) ?h27bn hS ?_
    case h27bn => exact (fun w hw => by go_simp)
    try simp only [Act.put, List.setIfInBounds_toArray, List.set_cons_zero, List.set_cons_succ]
    refine H.tk (i := 28) (v := (.bool false)) (fun w _ => rfl) hS ?_
    try simp only [Act.put, List.setIfInBounds_toArray, List.set_cons_zero, List.set_cons_succ]
    refine H.tk (i := 29) (v := ?v29bn) ?h29bn hS ?_
    case h29bn => (intro w hw; go_simp; first | done | (with_reducible rfl))
    try simp only [Act.put, List.setIfInBounds_toArray, List.set_cons_zero, List.set_cons_succ]
    refine H.tk (i := 30) (v := ?v30bn) ?h30bn hS ?_
    case h30bn => (intro w hw; go_simp; first | done | (with_reducible rfl))
    try simp only [Act.put, List.setIfInBounds_toArray, List.set_cons_zero, List.set_cons_succ]
    refine H.tk (i := 31) (v := ?v31bn) ?h31bn hS ?_
    case h31bn => (intro w hw; go_simp; first | done | (with_reducible rfl))
    try simp only [Act.put, List.setIfInBounds_toArray, List.set_cons_zero, List.set_cons_succ]
    refine H.tk (i := 32) (v := .int .i64 (K : Int)) ?h32bn hS ?_
    case h32bn => exact (fun w hw => by go_simp)
    try simp only [Act.put, List.setIfInBounds_toArray, List.set_cons_zero, List.set_cons_succ]
    refine H.tk (i := 33) (v := .int .u8 ba) ?h33bn hS ?_
    case h33bn => exact (fun w hw => by go_simp)
    try simp only [Act.put, List.setIfInBounds_toArray, List.set_cons_zero, List.set_cons_succ]
    refine H.tk (i := 34) (v := ?v34bn) ?h34bn hS ?_
    case h34bn => (intro w hw; go_simp; first | done | (with_reducible rfl))
    try simp only [Act.put, List.setIfInBounds_toArray, List.set_cons_zero, List.set_cons_succ]
    refine H.tk (i := 35) (v := ?v35bn) ?h35bn hS ?_
    case h35bn => (intro w hw; have c := (hw.m0).cs.c6; go_simp; first | done | (with_reducible rfl))
    try simp only [Act.put, List.setIfInBounds_toArray, List.set_cons_zero, List.set_cons_succ]
    refine H.tk (i := 36) (v := ?v36bn) ?h36bn hS ?_
    case h36bn => (intro w hw; go_simp; first | done | (with_reducible rfl))
    try simp only [Act.put, List.setIfInBounds_toArray, List.set_cons_zero, List.set_cons_succ]
    refine H.tk (i := 37) (v := ?v37bn) ?h37bn hS ?_
    case h37bn => (intro w hw; go_simp; first | done | (with_reducible rfl))
    try simp only [Act.put, List.setIfInBounds_toArray, List.set_cons_zero, List.set_cons_succ]
    refine H.tk (i := 38) (v := .int .i64 (K : Int)) ?h38bn hS ?_
    case h38bn => exact (fun w hw => by go_simp)
    try simp only [Act.put, List.setIfInBounds_toArray, List.set_cons_zero, List.set_cons_succ]
    refine H.tk (i := 39) (v := .int .u8 bp) ?h39bn hS ?_
    case h39bn => exact (fun w hw => by go_simp)
    try simp only [Act.put, List.setIfInBounds_toArray, List.set_cons_zero, List.set_cons_succ]
    refine H.tk (i := 40) (v := .bool true) ?h40bn hS ?_
    case h40bn => exact (fun w hw => by go_simp)
    try simp only [Act.put, List.setIfInBounds_toArray, List.set_cons_zero, List.set_cons_succ]
    refine H.tk (i := 41) (v := (.bool true)) (fun w _ => rfl) hS ?_
    try simp only [Act.put, List.setIfInBounds_toArray, List.set_cons_zero, List.set_cons_succ]
    refine H.tk (i := 42) (v := (.bool true)) (fun w _ => rfl) hS ?_
    try simp only [Act.put, List.setIfInBounds_toArray, List.set_cons_zero, List.set_cons_succ]
    refine H.tk (i := 43) (v := (.bool true)) (fun w _ => rfl) hS ?_
    try simp only [Act.put, List.setIfInBounds_toArray, List.set_cons_zero, List.set_cons_succ]
    refine wpAnyH_done (by kernel_rfl) ?_ _
    go_wp2
    go_ret
    exact ⟨rfl, hS.bel⟩

theorem own : ownKnob Tryd.prog.godebug = none := by kernel_rfl

set_option maxRecDepth 100000 in
theorem lifted (os : Os) (started : os.Started) (H : Type) (enc : TypeId × Value → H) :
    ReturnsInHanded {} Tryd.checked os 3 .any (fun w args => (Rows.leanMostSpec.pre enc Tryd.prog Tryd.f3 Rows.leanMostRow.domain false w args ∧ laidMetH Tryd.prog Rows.leanMostRow.laid w) ∧ sizedMet enc Tryd.prog Tryd.f3 (OpenSpec.ofChange Rows.leanMostSpec) false w args)
      (Rows.leanMostSpec.post enc Tryd.prog Tryd.f3 false true false false) := by
  refine returnsInHanded_of_change_and (C := Tryd.checked) (X := fun w _ => laidMetH Tryd.prog Rows.leanMostRow.laid w) (fun _ _ _ hh h => h.of_heap hh) own started (by kernel_rfl) Tryd.func3
    (ChangeSpec.witness_shaped (enc := enc) (C := Tryd.checked) (os := os) (X := fun w _ => laidMetH Tryd.prog Rows.leanMostRow.laid w) false (World.laidAll Tryd.prog os Rows.leanMostRow.laid) #[.agg Kx.zero.cells, .agg M.zero.cells] 8 (World.laidAll_os _ _ _)
      (World.shaped_of_ZipB (by kernel_rfl) (by kernel_rfl)) (by kernel_rfl) (by kernel_rfl) (by kernel_rfl)
      (by rw [MakeChecks.laidMetH_plain _ _ _ (by kernel_rfl)]; exact laidMet_laidAll _ (by kernel_rfl) (by kernel_rfl))) ?_
  intro W base args ds gs before hval0 hW _ _ hL0 _
  have hMet := of_laid hL0
  have hval : ∀ (j : Nat) t v, Tryd.f3.params[j]? = some t → args[j]? = some v → Value.okWide Tryd.prog W .any base t v := hval0
  have hW' := hW
  have hlt := fun x hx => hW'.lt x hx
  obtain ⟨p, q, hA0, hV, rfl, hfz, hnd⟩ := hW
  have hA : DataW.TrodAll enc Tryd.prog W 0 (fun _ => true) true Tryd.f3.params.toList args.toList ds p := hA0
  rw [Tryd.params3] at hA hval
  obtain ⟨v0, vs0, d0, ds0, p0, q0, hargs, rfl, rfl, h0, r0⟩ := trodAll_cons hA
  obtain ⟨v1, vs1, d1, ds1, p1, q1, rfl, rfl, rfl, h1, r1⟩ := trodAll_cons r0
  obtain ⟨rfl, rfl, rfl⟩ := trodAll_nil r1
  obtain rfl : args = #[v0, v1] := by cases args; simp_all
  obtain ⟨rfl, rfl⟩ := trodVars_none hV
  obtain ⟨c, rfl, hf⟩ := by_ctx (hval 0 25 v0 rfl rfl) h0
  obtain ⟨m, rfl, hd, hs, hp⟩ := by_valueP (hval 1 29 v1 rfl rfl) h1
  clear hA0 hval0
  simp only [List.append_nil] at hW' hlt
  refine (walk c m W hf hd hs hp hMet).mono fun e W' ⟨he, hg⟩ => ?_
  subst he
  exact ⟨_, rfl, _, _, _, [], _, [], hW', trodAll_mk1 (shut_bool Tryd.underlying4 _), (trodAll_cons_mk (again (by kernel_rfl) (of_decide_eq_true (by kernel_rfl)) h0 hg fun x hx => hlt x (by first | exact absurd hx (by simp) | simp [hx])) (trodAll_cons_mk (again (by kernel_rfl) (of_decide_eq_true (by kernel_rfl)) h1 hg fun x hx => hlt x (by first | exact absurd hx (by simp) | simp [hx])) trodAll_mk0)), rfl, hg.frame _, fun h => by cases h⟩

theorem over : Rows.LeanMostSaid :=
  OpenClaim.holds_of_wide 3 Tryd.f3 rfl rfl rfl rfl rfl rfl rfl ⟨rfl, rfl, rfl, rfl, rfl⟩ rfl rfl rfl rfl rfl (by kernel_rfl) Tryd.func3 (by kernel_rfl)
    (of_decide_eq_true (by kernel_rfl)) (by unfold Func.isWrapper; first | (rw [if_pos (by decide +kernel)]; kernel_rfl) | (rw [if_neg (by decide +kernel)]; exact ⟨rfl, rfl⟩))
    (fun os started H enc _ => lifted os started H enc)

theorem proved : Rows.LeanMostCardSaid :=
  Claim7.holds_tied_plain_at .later [] _ true _ _
    over (fun _ h => by cases h) (by kernel_rfl) (fun _ h => by cases h) leanMost_row_tie rfl ⟨rfl, rfl⟩ (by kernel_rfl) rfl
    (fun f fn hf hfn => by
      obtain rfl : f = 3 := Option.some.inj ((show Tryd.prog.funcNamed "roadbook/roadbooklaw24.LeanMost" = some 3 by kernel_rfl).symm.trans hf) |>.symm
      obtain rfl : fn = Tryd.f3 := (Option.some.inj (Tryd.func3.symm.trans hfn)).symm
      exact ⟨by kernel_rfl, fun j t ht => by
        rw [Tryd.params3] at ht
        have hm : t ∈ [25, 29] := by simpa using Array.mem_of_getElem? ht
        have hall : ([25, 29].all fun u => !Tryd.prog.wantsStandIn u) = true := by kernel_rfl
        exact (show Tryd.prog.wantsStandIn t = false by simpa using List.all_eq_true.1 hall t hm)⟩)
    (by kernel_rfl)
#print axioms proved
end Go.Proofs.YtfegdblaohhdoaaDoor.leanMost
