/-
  An Update's TLV, the TLVs ahead of it, all of them: the program's updateTlv, way and update. Conditions: what is known may be; the Update may be; its lists stand in the world.
  The TLVs ahead of an Update: the program's way. Conditions: what is known may be; the Update may be; its lists stand in the world.
  Whether a message may be: the program's answer and the document's. Conditions: the message's lists stand in the world, and aren't long; the variable has what it is laid with.
  Bytes of a call's own, in a struct of its own: appended, turned into a string; what else stands beside them. No conditions.
-/
import Derived.Test.YtfegdblaohhdoaaGreatDoorB01
import Derived.Test.YtfegdblaohhdoaaGreatDoorB03
import Derived.Test.YtfegdblaohhdoaaGreatDoorB04
import Derived.Test.YtfegdblaohhdoaaGreatDoorB05
import Derived.Test.YtfegdblaohhdoaaGreatDoorB06
import Derived.Test.YtfegdblaohhdoaaGreatDoorB07
import Derived.Lib.Builder
import Derived.Lib.AppendStr
namespace Go.Proofs.YtfegdblaohhdoaaGreatDoor.L6
open Go.ChangeShapes Go.WideShapes Go.ChangeAt Go.RowKit
open Go.Proofs.YtfegdblaohhdoaaGreatDoor.Ms
open Go.Proofs.YtfegdblaohhdoaaGreatDoor.Box
open Go.Proofs.YtfegdblaohhdoaaGreatDoor.An
open Go.Proofs.YtfegdblaohhdoaaGreatDoor.Nu (layN text_eq ext_list)
open Go.Proofs.YtfegdblaohhdoaaGreatDoor.S1 (okS putS putS_le)
open Go.Proofs.YtfegdblaohhdoaaGreatDoor.J1
open Go.Proofs.YtfegdblaohhdoaaGreatDoor.J2 (nil_eq nil_em)
open Go.Proofs.YtfegdblaohhdoaaGreatDoor.K1
open Go.Proofs.YtfegdblaohhdoaaGreatDoor.Kb
open Go.Proofs.YtfegdblaohhdoaaGreatDoor.K2 (fam_any)
open Go.Proofs.YtfegdblaohhdoaaGreatDoor.Pre (leadN leastN cutL)
open Go.Proofs.YtfegdblaohhdoaaGreatDoor.L1
open Go.Proofs.YtfegdblaohhdoaaGreatDoor.L2
open Go.Proofs.YtfegdblaohhdoaaGreatDoor.L4
open Go.Proofs.YtfegdblaohhdoaaGreatDoor.Cx
open Go.Proofs.YtfegdblaohhdoaaGreatDoor.F1 (enc1 ok1 put_ok putO)
open Go.Proofs.YtfegdblaohhdoaaGreatDoor.F6 (cat_is PutIs)
open Go.Proofs.YtfegdblaohhdoaaGreatDoor.F2 (sl_l)
open Go.Proofs.YtfegdblaohhdoaaGreatDoor.Bk (Bk alloc_size run_loadK loadVarK)
open Go.Proofs.YtfegdblaohhdoaaGreatDoor.Js (Lst bs_one app_one cells_new)
open Go.Proofs.YtfegdblaohhdoaaGreatDoor.Hs
open Go.Proofs.YtfegdblaohhdoaaGreatDoor.Hy
open Go.Proofs.YtfegdblaohhdoaaGreatDoor.Or (st_yes)
set_option linter.unusedVariables false
set_option maxRecDepth 100000
theorem lead_om {c : Kx} {m : M} (h : okU m = true) : leadN (stB m.ae (c.pf m.ae)) (cutP m.ae m.pfx m.plen) = omN c m := by
  have o := (oku_iff m).1 h
  unfold omN
  by_cases h0 : m.ae = 0 ∨ (c.pf m.ae).size = 0
  · rw [if_pos h0]
    have hl := Ld.lead_le (stB m.ae (c.pf m.ae)) (cutP m.ae m.pfx m.plen)
    rcases h0 with h0 | h0
    · have hz := cut_size o.pfx
      have : countN m.ae m.plen = 0 := by
        rcases len_cases (in_cases o.pfx).1 with ⟨_, e⟩ | ⟨e, _⟩ | ⟨e, _⟩ | ⟨e, _⟩
        · rw [e]; unfold countN leastN; simp
        all_goals omega
      omega
    · have : (stB m.ae (c.pf m.ae)).size = 0 := by unfold stB; rw [mk_size, List.length_drop, J1.size_list]; omega
      omega
  · rw [if_neg h0]; rfl
theorem st_cut (ae : Int) (a : ByteArray) (p : Int) : stB ae ⟨(cutL a.data.toList p).toArray⟩ = cutP ae a p := rfl
theorem pf_size {c : Kx} (hc : okC c = true) {ae : Int} (h0 : 0 ≤ ae) (h3 : ae ≤ 3) : (c.pf ae).size ≤ 16 := by
  rcases ((okc_iff c).1 hc).pf h0 h3 with h | ⟨h, hz⟩
  · omega
  · have := adr_len h (by omega) h3
    rw [this]; split <;> omega
theorem st_size (ae : Int) (s : ByteArray) : (stB ae s).size ≤ s.size := by unfold stB; rw [mk_size, List.length_drop, J1.size_list]; omega
set_option maxHeartbeats 12800000 in
set_option maxRecDepth 100000 in
theorem upd_any (c : Kx) (m : M) (w : World) (hm : m.In w) (ln : m.sl.length ≤ 2000) (lb : ∀ x ∈ m.sl, x.1.size ≤ 1099511627776) (hc : okC c = true) (h : okU m = true) :
    Calls Tryz.prog 83 #[.agg c.cells, .agg m.cells] w fun e w' => e = .returned (.string ⟨(enc1 (updD m (omN c m), 8)).toArray⟩) ∧ Below w.heap.size w w' := by
  have o := (oku_iff m).1 h
  obtain ⟨a0, a1, p0, p1⟩ := len_range (in_cases o.pfx).1
  have hcs := cut_size o.pfx
  have hct := (count_le (in_cases o.pfx).1).1
  have hpx := J2.adr_size o.pfx
  obtain ⟨o1, _, _⟩ := om_le (c := c) h
  have hpf := pf_size hc a0 a1
  have hzs := st_size m.ae (c.pf m.ae)
  obtain ⟨k, hk⟩ : ∃ k : Nat, m.ae = k := ⟨m.ae.toNat, by omega⟩
  have hk4 : k < 4 := by omega
  have Q1 := Lib.hid (fun V => Pre.cut_any m.pfx m.plen V (by omega) (by omega))
  have Q2 := Lib.hid (fun V => stand_any m.ae ⟨(cutL m.pfx.data.toList m.plen).toArray⟩ V)
  rw [st_cut] at Q2
  have Q3 := Lib.hid (fun V => stand_any m.ae (c.pf m.ae) V)
  have Q4 := Lib.hid (fun V => Pre.lead_any (stB m.ae (c.pf m.ae)) (cutP m.ae m.pfx m.plen) V (by omega) (by omega))
  rw [lead_om h] at Q4
  have Q5 := Lib.hid (fun V (y : m.In V) => S3.put_any m.sa m.sc m.sl V y.s ln lb)
  rw [o.subs] at Q5
  have Q6 := Lib.hid (fun V (y : m.In V) => head_any m (omN c m : Nat) V y)
  have hpu := upd_ok1 h o1
  have hp := (put_ok hpu (by show ¬ (8 : Int) = 0; decide)).2
  have hzu := (upd_size h o1).2
  have Q7 := Lib.hid (fun V => F6.put_any 8 (updD m (omN c m)) V (by omega))
  unfold PutIs at Q7
  rw [show putO 8 (updD m (omN c m)) = _ from hp] at Q7
  have hsl := putS_le m.sl
  have hhd := hd_size m (omN c m : Nat)
  have HD := hd_upd m (omN c m)
  have hq : (⟨((cutP m.ae m.pfx m.plen).data.toList.drop (omN c m)).toArray⟩ : ByteArray) = (cutP m.ae m.pfx m.plen).extract (omN c m) (cutP m.ae m.pfx m.plen).size := text_eq (by rw [ext_to])
  rw [hq] at HD
  have cut := sl_l (cutP m.ae m.pfx m.plen) (omN c m : Nat) (omN c m) _ rfl (by omega) rfl
  have hqz : ((cutP m.ae m.pfx m.plen).extract (omN c m) (cutP m.ae m.pfx m.plen).size).size ≤ 16 := by rw [← hq, mk_size, List.length_drop, J1.size_list]; omega
  have P0 := fun V (y : Us w c m V) => pf_at y.s0 hk4
  rw [← hk] at P0
  generalize (⟨(enc1 (updD m (omN c m), 8)).toArray⟩ : ByteArray) = u at *
  generalize updD m (omN c m) = d at *
  generalize hdU m (omN c m : Nat) = q4 at *
  generalize (cutP m.ae m.pfx m.plen).extract (omN c m) (cutP m.ae m.pfx m.plen).size = q3 at *
  generalize omN c m = n at *
  generalize putS m.sl = sb at *
  generalize stB m.ae (c.pf m.ae) = q2 at *
  generalize cutP m.ae m.pfx m.plen = cp at *
  generalize (⟨(cutL m.pfx.data.toList m.plen).toArray⟩ : ByteArray) = q1 at *
  generalize F1.putB 8 d = yb at *
  have cat1 := cat_is q4 q3 _ (by omega) (by omega) rfl
  have hz1 : (q4 ++ q3).size ≤ 26 := by rw [ByteArray.size_append]; omega
  generalize q4 ++ q3 = u1 at *
  have cat2 := cat_is u1 sb _ (by omega) (by omega) HD
  generalize c.pf m.ae = pa at *
  have PFA := Lib.hid P0
  have HK := Lib.hid hk
  clear P0 hk o hpx o1 hpf hzs lb ln hpu hp hzu hsl hhd HD hq hqz hz1 hc h hcs hct a0 a1 p0 p1
  go_enter Tryz.func83, Tryz.ntmps83
  go_upto_region 1 with fail
  change Code.wp _ _ _ _ ((w.alloc (.cells c.cells 25)).alloc (.cells m.cells 29))
  have D := Lib.hid (Us.start w c m hm)
  clear hm
  generalize (w.alloc (.cells c.cells 25)).alloc (.cells m.cells 29) = V at *
  refine wp_region_held_drew (S := fun W => Us w c m W) (by kernel_rfl) D.out.drew (fun hS => ?_)
  clear D
  generalize V.drew = X0 at *
  refine H.tk (i := 0) (v := ?v0x1) ?h0x1 hS ?_
  case h0x1 => (intro w hw; go_simp; first | done | (with_reducible rfl))
  try simp only [Act.put, List.setIfInBounds_toArray, List.set_cons_zero, List.set_cons_succ]
  refine H.tk (i := 1) (v := ?v1x2) ?h1x2 hS ?_
  case h1x2 => (intro w hw; have c := (hw.m0).cs.c5; go_simp; first | done | (with_reducible rfl))
  try simp only [Act.put, List.setIfInBounds_toArray, List.set_cons_zero, List.set_cons_succ]
  refine H.tk (i := 2) (v := ?v2x3) ?h2x3 hS ?_
  case h2x3 => (intro w hw; go_simp; first | done | (with_reducible rfl))
  try simp only [Act.put, List.setIfInBounds_toArray, List.set_cons_zero, List.set_cons_succ]
  refine H.tk (i := 3) (v := ?v3x4) ?h3x4 hS ?_
  case h3x4 => (intro w hw; have c := (hw.m0).cs.c6; go_simp; first | done | (with_reducible rfl))
  try simp only [Act.put, List.setIfInBounds_toArray, List.set_cons_zero, List.set_cons_succ]
  refine H.tk (i := 4) (v := ?v4x5) ?h4x5 hS ?_
  case h4x5 => (intro w hw; go_simp; first | done | (with_reducible rfl))
  try simp only [Act.put, List.setIfInBounds_toArray, List.set_cons_zero, List.set_cons_succ]
  refine H.tk (i := 5) (v := ?v5x6) ?h5x6 hS ?_
  case h5x6 => (intro w hw; have c := (hw.m0).cs.c7; go_simp; first | done | (with_reducible rfl))
  try simp only [Act.put, List.setIfInBounds_toArray, List.set_cons_zero, List.set_cons_succ]
  refine H.one (i := 6) (by simp only [List.getElem?_toArray, List.getElem?_cons_succ, List.getElem?_cons_zero]; rfl) (by kernel_rfl) (by kernel_rfl) (fun K hK => ?_)
  go_simp
  refine (Q1.out _).mono ?_
  rintro e X1 ⟨rfl, hb⟩
  have hS' := hS.call hb
  refine hK.out _ _ hS' ?_
  clear hK K hb hS
  have hS := hS'
  clear hS'
  try simp only [Act.put, List.setIfInBounds_toArray, List.set_cons_zero, List.set_cons_succ]
  refine H.one (i := 7) (by simp only [List.getElem?_toArray, List.getElem?_cons_succ, List.getElem?_cons_zero]; rfl) (by kernel_rfl) (by kernel_rfl) (fun K hK => ?_)
  go_simp
  refine (Q2.out _).mono ?_
  rintro e _ ⟨rfl, rfl⟩
  refine hK.out _ _ hS ?_
  clear hK K
  try simp only [Act.put, List.setIfInBounds_toArray, List.set_cons_zero, List.set_cons_succ]
  refine H.tk (i := 8) (v := ?v8x7) ?h8x7 hS ?_
  case h8x7 => (intro w hw; go_simp; first | done | (with_reducible rfl))
  try simp only [Act.put, List.setIfInBounds_toArray, List.set_cons_zero, List.set_cons_succ]
  refine wpAnyH_done (by kernel_rfl) ?_ _
  go_wp2_with fail
  have D := Lib.hid hS
  clear hS Q1 Q2
  generalize X1 = V1 at *
  go_upto_region 2 with fail
  refine wp_region_held_drew (S := fun W => Us w c m W) (by kernel_rfl) D.out.drew (fun hS => ?_)
  clear D
  generalize V1.drew = Y0 at *
  refine H.tk (i := 0) (v := ?v0x1p) ?h0x1p hS ?_
  case h0x1p => (intro w hw; go_simp; first | done | (with_reducible rfl))
  try simp only [Act.put, List.setIfInBounds_toArray, List.set_cons_zero, List.set_cons_succ]
  refine H.tk (i := 1) (v := ?v1x2p) ?h1x2p hS ?_
  case h1x2p => (intro w hw; have c := (hw.m0).cs.c5; go_simp; first | done | (with_reducible rfl))
  try simp only [Act.put, List.setIfInBounds_toArray, List.set_cons_zero, List.set_cons_succ]
  refine H.tk (i := 2) (v := ?v2x3p) ?h2x3p hS ?_
  case h2x3p => (intro w hw; go_simp; first | done | (with_reducible rfl))
  try simp only [Act.put, List.setIfInBounds_toArray, List.set_cons_zero, List.set_cons_succ]
  refine H.tk (i := 3) (v := ?v3x4p) ?h3x4p hS ?_
  case h3x4p => (intro w hw; have c := (hw.m0).cs.c5; go_simp; first | done | (with_reducible rfl))
  try simp only [Act.put, List.setIfInBounds_toArray, List.set_cons_zero, List.set_cons_succ]
  refine H.tk (i := 4) (v := ?v4x5p) ?h4x5p hS ?_
  case h4x5p => (intro w hw; go_simp; first | done | (with_reducible rfl))
  try simp only [Act.put, List.setIfInBounds_toArray, List.set_cons_zero, List.set_cons_succ]
  refine H.tk (i := 5) (v := .pointer (some ⟨w.heap.size, k, none⟩)) ?h5x6p hS ?_
  case h5x6p => exact (fun w1 hw => ex_index (vx := .pointer (some ⟨w.heap.size, 0, none⟩)) (vy := .int .i64 m.ae) rfl rfl rfl (by rw [HK.out]; exact index4 _ _ hk4 _))
  try simp only [Act.put, List.setIfInBounds_toArray, List.set_cons_zero, List.set_cons_succ]
  refine H.tk (i := 6) (v := ?v6x7p) ?h6x7p hS ?_
  case h6x7p => (intro w hw; have c := PFA.out _ hw; go_simp; first | done | (with_reducible rfl))
  try simp only [Act.put, List.setIfInBounds_toArray, List.set_cons_zero, List.set_cons_succ]
  refine H.tk (i := 8) (v := ?v8x8p) ?h8x8p hS ?_
  case h8x8p => (intro w hw; go_simp; first | done | (with_reducible rfl))
  try simp only [Act.put, List.setIfInBounds_toArray, List.set_cons_zero, List.set_cons_succ]
  refine H.one (i := 7) (by simp only [List.getElem?_toArray, List.getElem?_cons_succ, List.getElem?_cons_zero]; rfl) (by kernel_rfl) (by kernel_rfl) (fun K hK => ?_)
  go_simp
  refine (Q3.out _).mono ?_
  rintro e _ ⟨rfl, rfl⟩
  refine hK.out _ _ hS ?_
  clear hK K
  try simp only [Act.put, List.setIfInBounds_toArray, List.set_cons_zero, List.set_cons_succ]
  refine H.one (i := 9) (by simp only [List.getElem?_toArray, List.getElem?_cons_succ, List.getElem?_cons_zero]; rfl) (by kernel_rfl) (by kernel_rfl) (fun K hK => ?_)
  go_simp
  refine (Q4.out _).mono ?_
  rintro e X1 ⟨rfl, hb⟩
  have hS' := hS.call hb
  refine hK.out _ _ hS' ?_
  clear hK K hb hS
  have hS := hS'
  clear hS'
  try simp only [Act.put, List.setIfInBounds_toArray, List.set_cons_zero, List.set_cons_succ]
  refine H.tk (i := 10) (v := ?v10x9p) ?h10x9p hS ?_
  case h10x9p => (intro w hw; go_simp; first | done | (with_reducible rfl))
  try simp only [Act.put, List.setIfInBounds_toArray, List.set_cons_zero, List.set_cons_succ]
  refine wpAnyH_done (by kernel_rfl) ?_ _
  have c24 := hS.m0.cs.c24
  go_wp2_with fail
  have D := Lib.hid hS
  clear hS Q3 Q4
  refine (Q5.out _ D.out.i).mono ?_
  rintro r V3 ⟨rfl, hb⟩
  have D := Lib.hid (D.out.call hb)
  clear hb c24 Q5
  go_upto_region 4 with fail
  refine wp_region_held_drew (S := fun W => Us w c m W) (by kernel_rfl) D.out.drew (fun hS => ?_)
  clear D
  generalize V3.drew = Z0 at *
  refine H.tk (i := 0) (v := .agg (M.cells m)) ?h0x1q hS ?_
  case h0x1q => exact (fun w hw => run_loadM (x := .tmp 3) rfl rfl hw.m0)
  try simp only [Act.put, List.setIfInBounds_toArray, List.set_cons_zero, List.set_cons_succ]
  refine H.tk (i := 1) (v := ?v1x2q) ?h1x2q hS ?_
  case h1x2q => (intro w hw; go_simp; first | done | (with_reducible rfl))
  try simp only [Act.put, List.setIfInBounds_toArray, List.set_cons_zero, List.set_cons_succ]
  refine H.tk (i := 3) (v := ?v3x3q) ?h3x3q hS ?_
  case h3x3q => (intro w hw; go_simp; first | done | (with_reducible rfl))
  try simp only [Act.put, List.setIfInBounds_toArray, List.set_cons_zero, List.set_cons_succ]
  refine H.tk (i := 4) (v := ?v4x4q) ?h4x4q hS ?_
  case h4x4q => (intro w hw; go_simp; first | done | (with_reducible rfl))
  try simp only [Act.put, List.setIfInBounds_toArray, List.set_cons_zero, List.set_cons_succ]
  refine H.tk (i := 5) (v := ?v5x5q) ?h5x5q hS ?_
  case h5x5q => (intro w hw; go_simp; first | done | (with_reducible rfl))
  try simp only [Act.put, List.setIfInBounds_toArray, List.set_cons_zero, List.set_cons_succ]
  refine H.tk (i := 7) (v := ?v7x6q) ?h7x6q hS ?_
  case h7x6q => (intro w hw; go_simp; first | done | (with_reducible rfl))
  try simp only [Act.put, List.setIfInBounds_toArray, List.set_cons_zero, List.set_cons_succ]
  refine H.one (i := 2) (by simp only [List.getElem?_toArray, List.getElem?_cons_succ, List.getElem?_cons_zero]; rfl) (by kernel_rfl) (by kernel_rfl) (fun K hK => ?_)
  go_simp
  refine (Q6.out _ hS.i).mono ?_
  rintro e X1 ⟨rfl, hb⟩
  have hS' := hS.call hb
  refine hK.out _ _ hS' ?_
  clear hK K hb hS
  have hS := hS'
  clear hS'
  try simp only [Act.put, List.setIfInBounds_toArray, List.set_cons_zero, List.set_cons_succ]
  refine H.tk (i := 6) (v := ?v6x7q) ?h6x7q hS ?_
  case h6x7q => (intro w hw; go_simp; first | done | (with_reducible rfl))
  try simp only [Act.put, List.setIfInBounds_toArray, List.set_cons_zero, List.set_cons_succ]
  refine H.tk (i := 8) (v := ?v8x8q) ?h8x8q hS ?_
  case h8x8q => (intro w hw; go_simp; first | done | (with_reducible rfl))
  try simp only [Act.put, List.setIfInBounds_toArray, List.set_cons_zero, List.set_cons_succ]
  refine H.one (i := 9) (by simp only [List.getElem?_toArray, List.getElem?_cons_succ, List.getElem?_cons_zero]; rfl) (by kernel_rfl) (by kernel_rfl) (fun K hK => ?_)
  go_simp
  refine (Q7.out _).mono ?_
  rintro e X2 ⟨rfl, hb⟩
  have hS' := hS.call hb
  refine hK.out _ _ hS' ?_
  clear hK K hb hS
  have hS := hS'
  clear hS'
  try simp only [Act.put, List.setIfInBounds_toArray, List.set_cons_zero, List.set_cons_succ]
  refine H.tk (i := 10) (v := ?v10x9q) ?h10x9q hS ?_
  case h10x9q => (intro w hw; go_simp; first | done | (with_reducible rfl))
  try simp only [Act.put, List.setIfInBounds_toArray, List.set_cons_zero, List.set_cons_succ]
  refine H.tk (i := 11) (v := ?v11x10q) ?h11x10q hS ?_
  case h11x10q => (intro w hw; go_simp; first | done | (with_reducible rfl))
  try simp only [Act.put, List.setIfInBounds_toArray, List.set_cons_zero, List.set_cons_succ]
  refine H.tk (i := 12) (v := ?v12x11q) ?h12x11q hS ?_
  case h12x11q => (intro w hw; go_simp; first | done | (with_reducible rfl))
  try simp only [Act.put, List.setIfInBounds_toArray, List.set_cons_zero, List.set_cons_succ]
  refine H.tk (i := 13) (v := ?v13x12q) ?h13x12q hS ?_
  case h13x12q => (intro w hw; go_simp; first | done | (with_reducible rfl))
  try simp only [Act.put, List.setIfInBounds_toArray, List.set_cons_zero, List.set_cons_succ]
  refine H.tk (i := 14) (v := ?v14x13q) ?h14x13q hS ?_
  case h14x13q => (intro w hw; go_simp; first | done | (with_reducible rfl))
  try simp only [Act.put, List.setIfInBounds_toArray, List.set_cons_zero, List.set_cons_succ]
  refine wpAnyH_done (by kernel_rfl) ?_ _
  go_wp2
  go_ret
  exact ⟨rfl, hS.bel⟩
end Go.Proofs.YtfegdblaohhdoaaGreatDoor.L6
namespace Go.Proofs.YtfegdblaohhdoaaGreatDoor.Lw
open Go.ChangeShapes Go.WideShapes Go.ChangeAt Go.RowKit
open Go.Proofs.YtfegdblaohhdoaaGreatDoor.Ms
open Go.Proofs.YtfegdblaohhdoaaGreatDoor.Box
open Go.Proofs.YtfegdblaohhdoaaGreatDoor.An
open Go.Proofs.YtfegdblaohhdoaaGreatDoor.Nu (layN text_eq ext_list)
open Go.Proofs.YtfegdblaohhdoaaGreatDoor.S1 (okS putS putS_le)
open Go.Proofs.YtfegdblaohhdoaaGreatDoor.J1
open Go.Proofs.YtfegdblaohhdoaaGreatDoor.J2 (nil_eq nil_em)
open Go.Proofs.YtfegdblaohhdoaaGreatDoor.K1
open Go.Proofs.YtfegdblaohhdoaaGreatDoor.Kb
open Go.Proofs.YtfegdblaohhdoaaGreatDoor.K2 (fam_any)
open Go.Proofs.YtfegdblaohhdoaaGreatDoor.Pre (leadN leastN cutL)
open Go.Proofs.YtfegdblaohhdoaaGreatDoor.L1
open Go.Proofs.YtfegdblaohhdoaaGreatDoor.L2
open Go.Proofs.YtfegdblaohhdoaaGreatDoor.L4
open Go.Proofs.YtfegdblaohhdoaaGreatDoor.Cx
open Go.Proofs.YtfegdblaohhdoaaGreatDoor.F1 (enc1 ok1 put_ok putO)
open Go.Proofs.YtfegdblaohhdoaaGreatDoor.F6 (cat_is PutIs)
open Go.Proofs.YtfegdblaohhdoaaGreatDoor.F2 (sl_l)
open Go.Proofs.YtfegdblaohhdoaaGreatDoor.Bk (Bk alloc_size run_loadK loadVarK)
open Go.Proofs.YtfegdblaohhdoaaGreatDoor.Js (Lst bs_one app_one cells_new)
open Go.Proofs.YtfegdblaohhdoaaGreatDoor.Hs
open Go.Proofs.YtfegdblaohhdoaaGreatDoor.Hy
open Go.Proofs.YtfegdblaohhdoaaGreatDoor.Or (st_yes)
set_option linter.unusedVariables false
set_option maxRecDepth 100000
open Go.Proofs.YtfegdblaohhdoaaGreatDoor.L6
/-- What way answers. -/
def wayP (c : Kx) (m : M) : List ByteArray × Kx × Int := if badC c m = true then ([], c, 9) else (elB (wayE c m), wayC c m, 0)
set_option maxHeartbeats 25600000 in
set_option maxRecDepth 100000 in
theorem way_any (c : Kx) (m : M) (w : World) (hm : m.In w) (hc : okC c = true) (h : okU m = true) : Calls Tryz.prog 82 #[.agg c.cells, .agg m.cells] w (AnsW (wayP c m) w) := by
  have o := (oku_iff m).1 h
  obtain ⟨a0, a1, _, _⟩ := len_range (in_cases o.pfx).1
  have P1 := Lib.hid (fun V => fam_any m.ae V)
  by_cases hf : m.metric = 65535
  · have HY := Lib.hid (show wayP c m = ([], c, 0) by
      unfold wayP badC wayE wayC
      rw [if_pos hf, if_pos hf, decide_eq_true hf]
      simp [elB])
    go_enter Tryz.func82, Tryz.ntmps82
    go_upto_region 1 with fail
    change Code.wp _ _ _ _ (((w.alloc (.cells c.cells 25)).alloc (.cells m.cells 29)).alloc (.cells Kx.zero.cells 25))
    have D := Lib.hid ((Us.start w c m hm).call (balloc (Below.refl _ _) (.cells Kx.zero.cells 25)))
    have R0 := Lib.hid (res_new w c m)
    clear hm
    generalize ((w.alloc (.cells c.cells 25)).alloc (.cells m.cells 29)).alloc (.cells Kx.zero.cells 25) = V at *
    have c5 := D.out.m0.cs.c5
    have c9 := D.out.m0.cs.c9
    have c10 := D.out.m0.cs.c10
    have c11 := D.out.m0.cs.c11
    rw [hf] at c10
    clear hf o a0 a1 hc h
    go_wp2_with fail
    refine (P1.out _).mono ?_
    rintro r _ ⟨rfl, rfl⟩
    go_upto_region 3 with fail
    clear c5 c9 c10 c11
    have R0 := Lib.hid (show Bk 25 V.drew (w.heap.size + 1 + 1) Kx.zero.cells from R0.out)
    have HB := Lib.hid (show Below w.heap.size w V.drew from D.out.bel.drew)
    refine wp_region_held_drew (S := fun X => Bk 25 X w.heap.size (Kx.cells c)) (by kernel_rfl) (D.out.s0) (fun hS => ?_)
    clear D
    generalize V.drew = Z0 at *
    refine H.tk (i := 0) (v := .agg (Kx.cells c)) ?h0x1f1 hS ?_
    case h0x1f1 => exact (fun w hw => run_loadK shX (x := .tmp 2) rfl rfl hw rfl)
    try simp only [Act.put, List.setIfInBounds_toArray, List.set_cons_zero, List.set_cons_succ]
    refine H.tk (i := 1) (v := (Value.slice none 0 0)) (fun w _ => rfl) hS ?_
    try simp only [Act.put, List.setIfInBounds_toArray, List.set_cons_zero, List.set_cons_succ]
    refine H.one (i := 2) (by simp only [List.getElem?_toArray, List.getElem?_cons_succ, List.getElem?_cons_zero]; rfl) (by kernel_rfl) (by kernel_rfl) (fun K hK => ?_)
    refine wp_store_row 25 _ _ rfl (w.heap.size + 1 + 1) (Kx.cells c) rfl rfl 25 Kx.zero.cells R0.out infoX rfl (oneX _) ?_
    refine hK.out _ _ (hS.row (by omega) _) ?_
    clear hK K
    have hS := (show Bk 25 (Z0.setRow (w.heap.size + 1 + 1) (Kx.cells c)) w.heap.size (Kx.cells c) from hS.row (by omega) _)
    try simp only [Act.put]
    refine H.tk (i := 3) (v := (Value.int IntKind.i64 0)) (fun w _ => rfl) hS ?_
    try simp only [Act.put, List.setIfInBounds_toArray, List.set_cons_zero, List.set_cons_succ]
    refine wpAnyH_done (by kernel_rfl) ?_ _
    go_wp2_with fail
    exact bodyPost_ret (v := .tuple #[.slice none 0 0, .agg (Kx.cells c), .int .i64 0]) (results_mid (ty := 25) rfl _ _ (w.heap.size + 1 + 1) (.agg (Kx.cells c)) (.slice none 0 0) rfl rfl (loadVarK shX (R0.out.put (Kx.cells c)) rfl) (.int .i64 0) rfl) rfl (AnsW.no HY.out (Box.below_setRow HB.out (by omega) _))
  have e10 : (m.metric == 65535) = false := by simpa using hf
  obtain ⟨w1, w2, _⟩ := way_near o.way hf
  obtain ⟨k, hk2, hk⟩ : ∃ k : Nat, k < 2 ∧ fam m.ae = k := by
    unfold fam
    rcases (show m.ae = 1 ∨ m.ae = 2 ∨ m.ae = 3 by omega) with e | e | e
    · exact ⟨0, by decide, by rw [e]; rfl⟩
    · exact ⟨1, by decide, by rw [e]; rfl⟩
    · exact ⟨1, by decide, by rw [e]; rfl⟩
  have nm1 := nil_eq m.next
  have nm2 := nil_em m.next
  have nc1 := nil_eq (c.nx k)
  have nc2 := nil_em (c.nx k)
  rw [hk] at P1
  cases hb : badC c m
  rotate_left
  · have HY := Lib.hid (show wayP c m = ([], c, 9) by unfold wayP; rw [hb, if_pos rfl])
    have hbb : m.next.size = 0 ∧ ¬ (c.nx k).size = 0 := by
      unfold badC at hb
      rw [hk] at hb
      simp only [Bool.and_eq_true, Bool.not_eq_true', decide_eq_true_eq, decide_eq_false_iff_not] at hb
      exact hb.2.2
    rw [decide_eq_true hbb.1] at nm1 nm2
    rw [decide_eq_false hbb.2] at nc1 nc2
    go_enter Tryz.func82, Tryz.ntmps82
    go_upto_region 1 with fail
    change Code.wp _ _ _ _ (((w.alloc (.cells c.cells 25)).alloc (.cells m.cells 29)).alloc (.cells Kx.zero.cells 25))
    have D := Lib.hid ((Us.start w c m hm).call (balloc (Below.refl _ _) (.cells Kx.zero.cells 25)))
    have R0 := Lib.hid (res_new w c m)
    clear hm
    generalize ((w.alloc (.cells c.cells 25)).alloc (.cells m.cells 29)).alloc (.cells Kx.zero.cells 25) = V at *
    have c5 := D.out.m0.cs.c5
    have c9 := D.out.m0.cs.c9
    have c10 := D.out.m0.cs.c10
    have c11 := D.out.m0.cs.c11
    have n0 := nx_at D.out.s0 hk2
    clear hf o a0 a1 hc h hb hbb hk w1 w2
    go_wp2_with fail
    refine (P1.out _).mono ?_
    rintro r _ ⟨rfl, rfl⟩
    go_upto_region 5 with (first | (refine st_yes (v := .pointer (some ⟨w.heap.size, 4 + k, none⟩)) (by rfl) rfl (ex_index rfl rfl rfl (index2 w.heap.size k hk2 _)) ?_))
    clear c5 c9 c10 c11 n0 nm1 nm2 nc1 nc2 e10
    have R0 := Lib.hid (show Bk 25 V.drew (w.heap.size + 1 + 1) Kx.zero.cells from R0.out)
    have HB := Lib.hid (show Below w.heap.size w V.drew from D.out.bel.drew)
    refine wp_region_held_drew (S := fun X => Bk 25 X w.heap.size (Kx.cells c)) (by kernel_rfl) (D.out.s0) (fun hS => ?_)
    clear D
    generalize V.drew = Z0 at *
    refine H.tk (i := 0) (v := .agg (Kx.cells c)) ?h0x1f2 hS ?_
    case h0x1f2 => exact (fun w hw => run_loadK shX (x := .tmp 2) rfl rfl hw rfl)
    try simp only [Act.put, List.setIfInBounds_toArray, List.set_cons_zero, List.set_cons_succ]
    refine H.tk (i := 1) (v := (Value.slice none 0 0)) (fun w _ => rfl) hS ?_
    try simp only [Act.put, List.setIfInBounds_toArray, List.set_cons_zero, List.set_cons_succ]
    refine H.one (i := 2) (by simp only [List.getElem?_toArray, List.getElem?_cons_succ, List.getElem?_cons_zero]; rfl) (by kernel_rfl) (by kernel_rfl) (fun K hK => ?_)
    refine wp_store_row 25 _ _ rfl (w.heap.size + 1 + 1) (Kx.cells c) rfl rfl 25 Kx.zero.cells R0.out infoX rfl (oneX _) ?_
    refine hK.out _ _ (hS.row (by omega) _) ?_
    clear hK K
    have hS := (show Bk 25 (Z0.setRow (w.heap.size + 1 + 1) (Kx.cells c)) w.heap.size (Kx.cells c) from hS.row (by omega) _)
    try simp only [Act.put]
    refine H.tk (i := 3) (v := (Value.int IntKind.i64 9)) (fun w _ => rfl) hS ?_
    try simp only [Act.put, List.setIfInBounds_toArray, List.set_cons_zero, List.set_cons_succ]
    refine wpAnyH_done (by kernel_rfl) ?_ _
    go_wp2_with fail
    exact bodyPost_ret (v := .tuple #[.slice none 0 0, .agg (Kx.cells c), .int .i64 9]) (results_mid (ty := 25) rfl _ _ (w.heap.size + 1 + 1) (.agg (Kx.cells c)) (.slice none 0 0) rfl rfl (loadVarK shX (R0.out.put (Kx.cells c)) rfl) (.int .i64 9) rfl) rfl (AnsW.no HY.out (Box.below_setRow HB.out (by omega) _))
  have P2 := Lib.hid (fun V => id_any m.id V w2)
  have hnn := near_next h hf hb
  have qi := str_beq m.id c.id
  have qn := str_beq m.next (c.nx k)
  have hwp : wayP c m = (elB (wayE c m), wayC c m, 0) := by unfold wayP; rw [hb, if_neg (by decide)]
  unfold wayE wayC at hwp
  rw [if_neg hf, if_neg hf] at hwp
  rw [hk] at hwp hnn
  have hss : m.next = c.nx k → ({ c with id := m.id } : Kx).setN k m.next = { c with id := m.id } := fun e => by rw [← hk]; rw [← hk] at e; exact set_same e
  have hbo : m.next.size = 0 → (c.nx k).size = 0 := fun e => by
    unfold badC at hb
    rw [hk, decide_eq_true o.kind, decide_eq_false hf, decide_eq_true e] at hb
    simpa using hb
  clear o a0 a1 hc hb hf h w1 w2 hk
  by_cases hz : m.next.size = 0
  · have hn : m.next = c.nx k := by rw [empty_of hz, empty_of (hbo hz)]
    by_cases hi : m.id = c.id
    · rw [decide_eq_true hz] at nm1 nm2
      rw [decide_eq_true (hbo hz)] at nc1 nc2
      rw [decide_eq_true hi] at qi
      rw [decide_eq_true hn] at qn
      rw [if_pos hi, if_pos hn] at hwp
      rw [hss hn] at hwp
      rw [show ({ c with id := m.id } : Kx) = c by rw [hi]] at hwp
      rw [show elB ([] ++ []) = [] from rfl] at hwp
      have HY := Lib.hid hwp
      clear hwp hnn hss hbo hz hi hn
      go_enter Tryz.func82, Tryz.ntmps82
      go_upto_region 1 with fail
      change Code.wp _ _ _ _ (((w.alloc (.cells c.cells 25)).alloc (.cells m.cells 29)).alloc (.cells Kx.zero.cells 25))
      have D := Lib.hid ((Us.start w c m hm).call (balloc (Below.refl _ _) (.cells Kx.zero.cells 25)))
      have R0 := Lib.hid (res_new w c m)
      clear hm
      generalize ((w.alloc (.cells c.cells 25)).alloc (.cells m.cells 29)).alloc (.cells Kx.zero.cells 25) = V at *
      have c5 := D.out.m0.cs.c5
      have c9 := D.out.m0.cs.c9
      have c10 := D.out.m0.cs.c10
      have c11 := D.out.m0.cs.c11
      have n0 := nx_at D.out.s0 hk2
      have i0 := D.out.s0.cell 6 (.string c.id) rfl
      have HL := Lib.hid (Lst.nil (w.heap.size + 1 + 1 + 1) V)
      go_wp2_with fail
      refine (P1.out _).mono ?_
      rintro r _ ⟨rfl, rfl⟩
      go_upto_region 7 with (first | (refine st_yes (v := .pointer (some ⟨w.heap.size, 4 + k, none⟩)) (by rfl) rfl (ex_index rfl rfl rfl (index2 w.heap.size k hk2 _)) ?_))
      clear nm1 nm2 nc1 nc2 e10 c5 c10
      go_upto_region 10 with fail
      clear c9 c11 n0 i0 qi
      have R0 := Lib.hid (show Bk 25 V.drew (w.heap.size + 1 + 1) Kx.zero.cells from R0.out)
      have HL := Lib.hid (HL.out.below (Below.refl _ V).drew)
      refine wp_region_held_drew (S := fun W => Us w (c) m W) (by kernel_rfl) D.out.drew (fun hS => ?_)
      clear D
      generalize V.drew = V at *
      refine H.tk (i := 0) (v := ?v0x1ar) ?h0x1ar hS ?_
      case h0x1ar => (intro w hw; go_simp; first | done | (with_reducible rfl))
      try simp only [Act.put, List.setIfInBounds_toArray, List.set_cons_zero, List.set_cons_succ]
      refine H.tk (i := 1) (v := ?v1x2ar) ?h1x2ar hS ?_
      case h1x2ar => (intro w hw; have c := (hw.m0).cs.c9; go_simp; first | done | (with_reducible rfl))
      try simp only [Act.put, List.setIfInBounds_toArray, List.set_cons_zero, List.set_cons_succ]
      refine H.tk (i := 2) (v := ?v2x3ar) ?h2x3ar hS ?_
      case h2x3ar => (intro w hw; go_simp; first | done | (with_reducible rfl))
      try simp only [Act.put, List.setIfInBounds_toArray, List.set_cons_zero, List.set_cons_succ]
      refine H.tk (i := 3) (v := ?v3x4ar) ?h3x4ar hS ?_
      case h3x4ar => (intro w hw; go_simp; first | done | (with_reducible rfl))
      try simp only [Act.put, List.setIfInBounds_toArray, List.set_cons_zero, List.set_cons_succ]
      refine H.tk (i := 4) (v := .pointer (some ⟨w.heap.size, 4 + k, none⟩)) ?h4x5ar hS ?_
      case h4x5ar => exact (fun w1 hw => ex_index (vx := .pointer (some ⟨w.heap.size, 4, none⟩)) (vy := .int .i64 (k : Int)) rfl rfl rfl (index2 _ _ hk2 _))
      try simp only [Act.put, List.setIfInBounds_toArray, List.set_cons_zero, List.set_cons_succ]
      refine H.tk (i := 5) (v := ?v5x6ar) ?h5x6ar hS ?_
      case h5x6ar => (intro w hw; have c : _ = some (Value.string (c.nx k)) := nx_at hw.s0 hk2; go_simp; first | done | (with_reducible rfl))
      try simp only [Act.put, List.setIfInBounds_toArray, List.set_cons_zero, List.set_cons_succ]
      refine H.tk (i := 6) (v := ?v6x7ar) ?h6x7ar hS ?_
      case h6x7ar => (intro w hw; go_simp; first | done | (with_reducible rfl))
      try simp only [Act.put, List.setIfInBounds_toArray, List.set_cons_zero, List.set_cons_succ]
      refine wpAnyH_done (by kernel_rfl) ?_ _
      have D := Lib.hid hS
      go_upto_region 13 with fail
      clear hS
      have HY := Lib.hid (show wayP c m = ([], c, 0) by rw [HY.out] <;> rfl)
      have R0 := Lib.hid (show Bk 25 V.drew (w.heap.size + 1 + 1) Kx.zero.cells from R0.out)
      have HB := Lib.hid (show Below w.heap.size w V.drew from D.out.bel.drew)
      refine wp_region_held_drew (S := fun X => Bk 25 X w.heap.size (Kx.cells c)) (by kernel_rfl) (D.out.s0) (fun hS => ?_)
      clear D
      generalize V.drew = Z0 at *
      refine H.tk (i := 0) (v := .slice none 0 0) ?h0x1af hS ?_
      case h0x1af => exact (fun w hw => by go_simp)
      try simp only [Act.put, List.setIfInBounds_toArray, List.set_cons_zero, List.set_cons_succ]
      refine H.tk (i := 1) (v := .agg (Kx.cells c)) ?h1x2af hS ?_
      case h1x2af => exact (fun w hw => run_loadK shX (x := .tmp 2) rfl rfl hw rfl)
      try simp only [Act.put, List.setIfInBounds_toArray, List.set_cons_zero, List.set_cons_succ]
      refine H.tk (i := 2) (v := ?v2x3af) ?h2x3af hS ?_
      case h2x3af => (intro w hw; go_simp; first | done | (with_reducible rfl))
      try simp only [Act.put, List.setIfInBounds_toArray, List.set_cons_zero, List.set_cons_succ]
      refine H.one (i := 3) (by simp only [List.getElem?_toArray, List.getElem?_cons_succ, List.getElem?_cons_zero]; rfl) (by kernel_rfl) (by kernel_rfl) (fun K hK => ?_)
      refine wp_store_row 25 _ _ rfl (w.heap.size + 1 + 1) (Kx.cells c) rfl rfl 25 Kx.zero.cells R0.out infoX rfl (oneX _) ?_
      refine hK.out _ _ (hS.row (by omega) _) ?_
      clear hK K
      have hS := (show Bk 25 (Z0.setRow (w.heap.size + 1 + 1) (Kx.cells c)) w.heap.size (Kx.cells c) from hS.row (by omega) _)
      try simp only [Act.put]
      refine H.tk (i := 4) (v := (Value.int IntKind.i64 0)) (fun w _ => rfl) hS ?_
      try simp only [Act.put, List.setIfInBounds_toArray, List.set_cons_zero, List.set_cons_succ]
      refine wpAnyH_done (by kernel_rfl) ?_ _
      go_wp2_with fail
      exact bodyPost_ret (v := .tuple #[.slice none 0 0, .agg (Kx.cells c), .int .i64 0]) (results_mid (ty := 25) rfl _ _ (w.heap.size + 1 + 1) (.agg (Kx.cells c)) (.slice none 0 0) rfl rfl (loadVarK shX (R0.out.put (Kx.cells c)) rfl) (.int .i64 0) rfl) rfl (AnsW.no HY.out (Box.below_setRow HB.out (by omega) _))
    · rw [decide_eq_true hz] at nm1 nm2
      rw [decide_eq_true (hbo hz)] at nc1 nc2
      rw [decide_eq_false hi] at qi
      rw [decide_eq_true hn] at qn
      rw [if_neg hi, if_pos hn] at hwp
      rw [hss hn] at hwp
      rw [show elB ([(idD m.id, 6)] ++ []) = [⟨(enc1 (idD m.id, 6)).toArray⟩] from rfl] at hwp
      have HY := Lib.hid hwp
      clear hwp hnn hss hbo hz hi hn
      generalize (⟨(enc1 (idD m.id, 6)).toArray⟩ : ByteArray) = x1 at *
      go_enter Tryz.func82, Tryz.ntmps82
      go_upto_region 1 with fail
      change Code.wp _ _ _ _ (((w.alloc (.cells c.cells 25)).alloc (.cells m.cells 29)).alloc (.cells Kx.zero.cells 25))
      have D := Lib.hid ((Us.start w c m hm).call (balloc (Below.refl _ _) (.cells Kx.zero.cells 25)))
      have R0 := Lib.hid (res_new w c m)
      clear hm
      generalize ((w.alloc (.cells c.cells 25)).alloc (.cells m.cells 29)).alloc (.cells Kx.zero.cells 25) = V at *
      have c5 := D.out.m0.cs.c5
      have c9 := D.out.m0.cs.c9
      have c10 := D.out.m0.cs.c10
      have c11 := D.out.m0.cs.c11
      have n0 := nx_at D.out.s0 hk2
      have i0 := D.out.s0.cell 6 (.string c.id) rfl
      have HL := Lib.hid (Lst.nil (w.heap.size + 1 + 1 + 1) V)
      go_wp2_with fail
      refine (P1.out _).mono ?_
      rintro r _ ⟨rfl, rfl⟩
      go_upto_region 7 with (first | (refine st_yes (v := .pointer (some ⟨w.heap.size, 4 + k, none⟩)) (by rfl) rfl (ex_index rfl rfl rfl (index2 w.heap.size k hk2 _)) ?_))
      clear nm1 nm2 nc1 nc2 e10 c5 c10
      go_wp2_with fail
      clear c9 c11 n0 i0 qi
      refine (P2.out _).mono ?_
      rintro r w1 ⟨rfl, hb⟩
      have D := Lib.hid (D.out.call hb)
      have R0 := Lib.hid (R0.out.below hb)
      have HL := Lib.hid (HL.out.below hb)
      clear hb
      have bel := balloc (Below.refl w1.heap.size w1) (.cells #[.string x1] 9)
      have D := Lib.hid (D.out.call bel)
      have R0 := Lib.hid (R0.out.below bel)
      have HL := Lib.hid (HL.out.below bel)
      have hzz := D.out.bel.size
      have hz3 := R0.out.lt
      go_upto_region 9 with (first | (refine bs_one rfl _ rfl (s := x1) rfl ?_) | (at_builtin; refine app_one rfl _ _ rfl (w.heap.size + 1 + 1 + 1) _ [] x1 w1.heap.size 1 rfl HL.out rfl (cells_new x1 w1) ?cl9 ?cb9 ?_))
      case cl9 => exact Nat.zero_le _
      case cb9 => omega
      intro v' w2 hl hb hz
      have D := Lib.hid (D.out.under hb (by omega))
      have R0 := Lib.hid (R0.out.under hb (by omega))
      obtain ⟨ls, hls⟩ : ∃ l, l = [x1] := ⟨_, rfl⟩
      rw [← hls] at hl
      have HQ1 := Lib.hid hls
      obtain ⟨qa, qk, rfl⟩ := hl.slice
      have HL := Lib.hid hl
      clear hl hb hz bel hls hzz hz3
      have c11 := D.out.m0.cs.c11
      have d := D.out.s0.cell 6 (.string c.id) rfl
      have fd := D.out.s0.frozen 6
      go_upto_region 10 with fail
      clear c11 d fd
      have D := Lib.hid (D.out.set (c' := { c with id := m.id }) (k := 6) (v := .string m.id) rfl)
      have R0 := Lib.hid (R0.out.off (p := ⟨w.heap.size, 6, none⟩) (by show w.heap.size + 1 + 1 ≠ w.heap.size; omega) (.string m.id))
      have HL := Lib.hid (HL.out.cellset (p := ⟨w.heap.size, 6, none⟩) (by show w.heap.size < _; omega) (.string m.id))
      generalize w2.setCell ⟨w.heap.size, 6, none⟩ (.string m.id) = V at *
      have R0 := Lib.hid (show Bk 25 V.drew (w.heap.size + 1 + 1) Kx.zero.cells from R0.out)
      have HL := Lib.hid (HL.out.below (Below.refl _ V).drew)
      refine wp_region_held_drew (S := fun W => Us w ({ c with id := m.id }) m W) (by kernel_rfl) D.out.drew (fun hS => ?_)
      clear D
      generalize V.drew = V at *
      refine H.tk (i := 0) (v := ?v0x1br) ?h0x1br hS ?_
      case h0x1br => (intro w hw; go_simp; first | done | (with_reducible rfl))
      try simp only [Act.put, List.setIfInBounds_toArray, List.set_cons_zero, List.set_cons_succ]
      refine H.tk (i := 1) (v := ?v1x2br) ?h1x2br hS ?_
      case h1x2br => (intro w hw; have c := (hw.m0).cs.c9; go_simp; first | done | (with_reducible rfl))
      try simp only [Act.put, List.setIfInBounds_toArray, List.set_cons_zero, List.set_cons_succ]
      refine H.tk (i := 2) (v := ?v2x3br) ?h2x3br hS ?_
      case h2x3br => (intro w hw; go_simp; first | done | (with_reducible rfl))
      try simp only [Act.put, List.setIfInBounds_toArray, List.set_cons_zero, List.set_cons_succ]
      refine H.tk (i := 3) (v := ?v3x4br) ?h3x4br hS ?_
      case h3x4br => (intro w hw; go_simp; first | done | (with_reducible rfl))
      try simp only [Act.put, List.setIfInBounds_toArray, List.set_cons_zero, List.set_cons_succ]
      refine H.tk (i := 4) (v := .pointer (some ⟨w.heap.size, 4 + k, none⟩)) ?h4x5br hS ?_
      case h4x5br => exact (fun w1 hw => ex_index (vx := .pointer (some ⟨w.heap.size, 4, none⟩)) (vy := .int .i64 (k : Int)) rfl rfl rfl (index2 _ _ hk2 _))
      try simp only [Act.put, List.setIfInBounds_toArray, List.set_cons_zero, List.set_cons_succ]
      refine H.tk (i := 5) (v := ?v5x6br) ?h5x6br hS ?_
      case h5x6br => (intro w hw; have c : _ = some (Value.string (c.nx k)) := nx_at hw.s0 hk2; go_simp; first | done | (with_reducible rfl))
      try simp only [Act.put, List.setIfInBounds_toArray, List.set_cons_zero, List.set_cons_succ]
      refine H.tk (i := 6) (v := ?v6x7br) ?h6x7br hS ?_
      case h6x7br => (intro w hw; go_simp; first | done | (with_reducible rfl))
      try simp only [Act.put, List.setIfInBounds_toArray, List.set_cons_zero, List.set_cons_succ]
      refine wpAnyH_done (by kernel_rfl) ?_ _
      have D := Lib.hid hS
      go_upto_region 13 with fail
      clear hS
      have HY := Lib.hid (show wayP c m = (ls, { c with id := m.id }, 0) by rw [HY.out, HQ1.out] <;> rfl)
      have R0 := Lib.hid (show Bk 25 V.drew (w.heap.size + 1 + 1) Kx.zero.cells from R0.out)
      have HB := Lib.hid (show Below w.heap.size w V.drew from D.out.bel.drew)
      have HL := Lib.hid (HL.out.below (Below.refl _ V).drew)
      refine wp_region_held_drew (S := fun X => Bk 25 X w.heap.size (Kx.cells ({ c with id := m.id }))) (by kernel_rfl) (D.out.s0) (fun hS => ?_)
      clear D
      generalize V.drew = Z0 at *
      refine H.tk (i := 0) (v := .slice qa ls.length qk) ?h0x1bf hS ?_
      case h0x1bf => exact (fun w hw => by go_simp)
      try simp only [Act.put, List.setIfInBounds_toArray, List.set_cons_zero, List.set_cons_succ]
      refine H.tk (i := 1) (v := .agg (Kx.cells ({ c with id := m.id }))) ?h1x2bf hS ?_
      case h1x2bf => exact (fun w hw => run_loadK shX (x := .tmp 2) rfl rfl hw rfl)
      try simp only [Act.put, List.setIfInBounds_toArray, List.set_cons_zero, List.set_cons_succ]
      refine H.tk (i := 2) (v := ?v2x3bf) ?h2x3bf hS ?_
      case h2x3bf => (intro w hw; go_simp; first | done | (with_reducible rfl))
      try simp only [Act.put, List.setIfInBounds_toArray, List.set_cons_zero, List.set_cons_succ]
      refine H.one (i := 3) (by simp only [List.getElem?_toArray, List.getElem?_cons_succ, List.getElem?_cons_zero]; rfl) (by kernel_rfl) (by kernel_rfl) (fun K hK => ?_)
      refine wp_store_row 25 _ _ rfl (w.heap.size + 1 + 1) (Kx.cells ({ c with id := m.id })) rfl rfl 25 Kx.zero.cells R0.out infoX rfl (oneX _) ?_
      refine hK.out _ _ (hS.row (by omega) _) ?_
      clear hK K
      have hS := (show Bk 25 (Z0.setRow (w.heap.size + 1 + 1) (Kx.cells ({ c with id := m.id }))) w.heap.size (Kx.cells ({ c with id := m.id })) from hS.row (by omega) _)
      try simp only [Act.put]
      refine H.tk (i := 4) (v := (Value.int IntKind.i64 0)) (fun w _ => rfl) hS ?_
      try simp only [Act.put, List.setIfInBounds_toArray, List.set_cons_zero, List.set_cons_succ]
      refine wpAnyH_done (by kernel_rfl) ?_ _
      go_wp2_with fail
      exact bodyPost_ret (v := .tuple #[.slice qa ls.length qk, .agg (Kx.cells ({ c with id := m.id })), .int .i64 0]) (results_mid (ty := 25) rfl _ _ (w.heap.size + 1 + 1) (.agg (Kx.cells ({ c with id := m.id }))) (.slice qa ls.length qk) rfl rfl (loadVarK shX (R0.out.put (Kx.cells ({ c with id := m.id }))) rfl) (.int .i64 0) rfl) rfl (by rw [HY.out]; exact ⟨qa, qk, rfl, (HL.out.under (by omega) _).mono (by omega), Box.below_setRow HB.out (by omega) _⟩)
  by_cases hi : m.id = c.id
  · by_cases hn : m.next = c.nx k
    · rw [decide_eq_false hz] at nm1 nm2
      rw [decide_eq_true hi] at qi
      rw [decide_eq_true hn] at qn
      rw [if_pos hi, if_pos hn] at hwp
      rw [hss hn] at hwp
      rw [show ({ c with id := m.id } : Kx) = c by rw [hi]] at hwp
      rw [show elB ([] ++ []) = [] from rfl] at hwp
      have HY := Lib.hid hwp
      clear hwp hnn hss hbo hz hi hn
      go_enter Tryz.func82, Tryz.ntmps82
      go_upto_region 1 with fail
      change Code.wp _ _ _ _ (((w.alloc (.cells c.cells 25)).alloc (.cells m.cells 29)).alloc (.cells Kx.zero.cells 25))
      have D := Lib.hid ((Us.start w c m hm).call (balloc (Below.refl _ _) (.cells Kx.zero.cells 25)))
      have R0 := Lib.hid (res_new w c m)
      clear hm
      generalize ((w.alloc (.cells c.cells 25)).alloc (.cells m.cells 29)).alloc (.cells Kx.zero.cells 25) = V at *
      have c5 := D.out.m0.cs.c5
      have c9 := D.out.m0.cs.c9
      have c10 := D.out.m0.cs.c10
      have c11 := D.out.m0.cs.c11
      have n0 := nx_at D.out.s0 hk2
      have i0 := D.out.s0.cell 6 (.string c.id) rfl
      have HL := Lib.hid (Lst.nil (w.heap.size + 1 + 1 + 1) V)
      go_wp2_with fail
      refine (P1.out _).mono ?_
      rintro r _ ⟨rfl, rfl⟩
      go_upto_region 7 with (first | (refine st_yes (v := .pointer (some ⟨w.heap.size, 4 + k, none⟩)) (by rfl) rfl (ex_index rfl rfl rfl (index2 w.heap.size k hk2 _)) ?_))
      clear nm1 nm2 nc1 nc2 e10 c5 c10
      go_upto_region 10 with fail
      clear c9 c11 n0 i0 qi
      have R0 := Lib.hid (show Bk 25 V.drew (w.heap.size + 1 + 1) Kx.zero.cells from R0.out)
      have HL := Lib.hid (HL.out.below (Below.refl _ V).drew)
      refine wp_region_held_drew (S := fun W => Us w (c) m W) (by kernel_rfl) D.out.drew (fun hS => ?_)
      clear D
      generalize V.drew = V at *
      refine H.tk (i := 0) (v := ?v0x1cr) ?h0x1cr hS ?_
      case h0x1cr => (intro w hw; go_simp; first | done | (with_reducible rfl))
      try simp only [Act.put, List.setIfInBounds_toArray, List.set_cons_zero, List.set_cons_succ]
      refine H.tk (i := 1) (v := ?v1x2cr) ?h1x2cr hS ?_
      case h1x2cr => (intro w hw; have c := (hw.m0).cs.c9; go_simp; first | done | (with_reducible rfl))
      try simp only [Act.put, List.setIfInBounds_toArray, List.set_cons_zero, List.set_cons_succ]
      refine H.tk (i := 2) (v := ?v2x3cr) ?h2x3cr hS ?_
      case h2x3cr => (intro w hw; go_simp; first | done | (with_reducible rfl))
      try simp only [Act.put, List.setIfInBounds_toArray, List.set_cons_zero, List.set_cons_succ]
      refine H.tk (i := 3) (v := ?v3x4cr) ?h3x4cr hS ?_
      case h3x4cr => (intro w hw; go_simp; first | done | (with_reducible rfl))
      try simp only [Act.put, List.setIfInBounds_toArray, List.set_cons_zero, List.set_cons_succ]
      refine H.tk (i := 4) (v := .pointer (some ⟨w.heap.size, 4 + k, none⟩)) ?h4x5cr hS ?_
      case h4x5cr => exact (fun w1 hw => ex_index (vx := .pointer (some ⟨w.heap.size, 4, none⟩)) (vy := .int .i64 (k : Int)) rfl rfl rfl (index2 _ _ hk2 _))
      try simp only [Act.put, List.setIfInBounds_toArray, List.set_cons_zero, List.set_cons_succ]
      refine H.tk (i := 5) (v := ?v5x6cr) ?h5x6cr hS ?_
      case h5x6cr => (intro w hw; have c : _ = some (Value.string (c.nx k)) := nx_at hw.s0 hk2; go_simp; first | done | (with_reducible rfl))
      try simp only [Act.put, List.setIfInBounds_toArray, List.set_cons_zero, List.set_cons_succ]
      refine H.tk (i := 6) (v := ?v6x7cr) ?h6x7cr hS ?_
      case h6x7cr => (intro w hw; go_simp; first | done | (with_reducible rfl))
      try simp only [Act.put, List.setIfInBounds_toArray, List.set_cons_zero, List.set_cons_succ]
      refine wpAnyH_done (by kernel_rfl) ?_ _
      have D := Lib.hid hS
      go_upto_region 13 with fail
      clear hS
      have HY := Lib.hid (show wayP c m = ([], c, 0) by rw [HY.out] <;> rfl)
      have R0 := Lib.hid (show Bk 25 V.drew (w.heap.size + 1 + 1) Kx.zero.cells from R0.out)
      have HB := Lib.hid (show Below w.heap.size w V.drew from D.out.bel.drew)
      refine wp_region_held_drew (S := fun X => Bk 25 X w.heap.size (Kx.cells c)) (by kernel_rfl) (D.out.s0) (fun hS => ?_)
      clear D
      generalize V.drew = Z0 at *
      refine H.tk (i := 0) (v := .slice none 0 0) ?h0x1cf hS ?_
      case h0x1cf => exact (fun w hw => by go_simp)
      try simp only [Act.put, List.setIfInBounds_toArray, List.set_cons_zero, List.set_cons_succ]
      refine H.tk (i := 1) (v := .agg (Kx.cells c)) ?h1x2cf hS ?_
      case h1x2cf => exact (fun w hw => run_loadK shX (x := .tmp 2) rfl rfl hw rfl)
      try simp only [Act.put, List.setIfInBounds_toArray, List.set_cons_zero, List.set_cons_succ]
      refine H.tk (i := 2) (v := ?v2x3cf) ?h2x3cf hS ?_
      case h2x3cf => (intro w hw; go_simp; first | done | (with_reducible rfl))
      try simp only [Act.put, List.setIfInBounds_toArray, List.set_cons_zero, List.set_cons_succ]
      refine H.one (i := 3) (by simp only [List.getElem?_toArray, List.getElem?_cons_succ, List.getElem?_cons_zero]; rfl) (by kernel_rfl) (by kernel_rfl) (fun K hK => ?_)
      refine wp_store_row 25 _ _ rfl (w.heap.size + 1 + 1) (Kx.cells c) rfl rfl 25 Kx.zero.cells R0.out infoX rfl (oneX _) ?_
      refine hK.out _ _ (hS.row (by omega) _) ?_
      clear hK K
      have hS := (show Bk 25 (Z0.setRow (w.heap.size + 1 + 1) (Kx.cells c)) w.heap.size (Kx.cells c) from hS.row (by omega) _)
      try simp only [Act.put]
      refine H.tk (i := 4) (v := (Value.int IntKind.i64 0)) (fun w _ => rfl) hS ?_
      try simp only [Act.put, List.setIfInBounds_toArray, List.set_cons_zero, List.set_cons_succ]
      refine wpAnyH_done (by kernel_rfl) ?_ _
      go_wp2_with fail
      exact bodyPost_ret (v := .tuple #[.slice none 0 0, .agg (Kx.cells c), .int .i64 0]) (results_mid (ty := 25) rfl _ _ (w.heap.size + 1 + 1) (.agg (Kx.cells c)) (.slice none 0 0) rfl rfl (loadVarK shX (R0.out.put (Kx.cells c)) rfl) (.int .i64 0) rfl) rfl (AnsW.no HY.out (Box.below_setRow HB.out (by omega) _))
    · rw [decide_eq_false hz] at nm1 nm2
      rw [decide_eq_true hi] at qi
      rw [decide_eq_false hn] at qn
      rw [if_pos hi, if_neg hn] at hwp
      rw [show ({ c with id := m.id } : Kx) = c by rw [hi]] at hwp
      have P3 := Lib.hid (fun V => hop_any m.next V (by rcases hnn with e | e; exact absurd e hn; exact e.1))
      rw [show elB ([] ++ [(hopD m.next, 7)]) = [⟨(enc1 (hopD m.next, 7)).toArray⟩] from rfl] at hwp
      have HY := Lib.hid hwp
      clear hwp hnn hss hbo hz hi hn
      generalize (⟨(enc1 (hopD m.next, 7)).toArray⟩ : ByteArray) = x2 at *
      go_enter Tryz.func82, Tryz.ntmps82
      go_upto_region 1 with fail
      change Code.wp _ _ _ _ (((w.alloc (.cells c.cells 25)).alloc (.cells m.cells 29)).alloc (.cells Kx.zero.cells 25))
      have D := Lib.hid ((Us.start w c m hm).call (balloc (Below.refl _ _) (.cells Kx.zero.cells 25)))
      have R0 := Lib.hid (res_new w c m)
      clear hm
      generalize ((w.alloc (.cells c.cells 25)).alloc (.cells m.cells 29)).alloc (.cells Kx.zero.cells 25) = V at *
      have c5 := D.out.m0.cs.c5
      have c9 := D.out.m0.cs.c9
      have c10 := D.out.m0.cs.c10
      have c11 := D.out.m0.cs.c11
      have n0 := nx_at D.out.s0 hk2
      have i0 := D.out.s0.cell 6 (.string c.id) rfl
      have HL := Lib.hid (Lst.nil (w.heap.size + 1 + 1 + 1) V)
      go_wp2_with fail
      refine (P1.out _).mono ?_
      rintro r _ ⟨rfl, rfl⟩
      go_upto_region 7 with (first | (refine st_yes (v := .pointer (some ⟨w.heap.size, 4 + k, none⟩)) (by rfl) rfl (ex_index rfl rfl rfl (index2 w.heap.size k hk2 _)) ?_))
      clear nm1 nm2 nc1 nc2 e10 c5 c10
      go_upto_region 10 with fail
      clear c9 c11 n0 i0 qi
      have R0 := Lib.hid (show Bk 25 V.drew (w.heap.size + 1 + 1) Kx.zero.cells from R0.out)
      have HL := Lib.hid (HL.out.below (Below.refl _ V).drew)
      refine wp_region_held_drew (S := fun W => Us w (c) m W) (by kernel_rfl) D.out.drew (fun hS => ?_)
      clear D
      generalize V.drew = V at *
      refine H.tk (i := 0) (v := ?v0x1dr) ?h0x1dr hS ?_
      case h0x1dr => (intro w hw; go_simp; first | done | (with_reducible rfl))
      try simp only [Act.put, List.setIfInBounds_toArray, List.set_cons_zero, List.set_cons_succ]
      refine H.tk (i := 1) (v := ?v1x2dr) ?h1x2dr hS ?_
      case h1x2dr => (intro w hw; have c := (hw.m0).cs.c9; go_simp; first | done | (with_reducible rfl))
      try simp only [Act.put, List.setIfInBounds_toArray, List.set_cons_zero, List.set_cons_succ]
      refine H.tk (i := 2) (v := ?v2x3dr) ?h2x3dr hS ?_
      case h2x3dr => (intro w hw; go_simp; first | done | (with_reducible rfl))
      try simp only [Act.put, List.setIfInBounds_toArray, List.set_cons_zero, List.set_cons_succ]
      refine H.tk (i := 3) (v := ?v3x4dr) ?h3x4dr hS ?_
      case h3x4dr => (intro w hw; go_simp; first | done | (with_reducible rfl))
      try simp only [Act.put, List.setIfInBounds_toArray, List.set_cons_zero, List.set_cons_succ]
      refine H.tk (i := 4) (v := .pointer (some ⟨w.heap.size, 4 + k, none⟩)) ?h4x5dr hS ?_
      case h4x5dr => exact (fun w1 hw => ex_index (vx := .pointer (some ⟨w.heap.size, 4, none⟩)) (vy := .int .i64 (k : Int)) rfl rfl rfl (index2 _ _ hk2 _))
      try simp only [Act.put, List.setIfInBounds_toArray, List.set_cons_zero, List.set_cons_succ]
      refine H.tk (i := 5) (v := ?v5x6dr) ?h5x6dr hS ?_
      case h5x6dr => (intro w hw; have c : _ = some (Value.string (c.nx k)) := nx_at hw.s0 hk2; go_simp; first | done | (with_reducible rfl))
      try simp only [Act.put, List.setIfInBounds_toArray, List.set_cons_zero, List.set_cons_succ]
      refine H.tk (i := 6) (v := ?v6x7dr) ?h6x7dr hS ?_
      case h6x7dr => (intro w hw; go_simp; first | done | (with_reducible rfl))
      try simp only [Act.put, List.setIfInBounds_toArray, List.set_cons_zero, List.set_cons_succ]
      refine wpAnyH_done (by kernel_rfl) ?_ _
      have D := Lib.hid hS
      have c9 := hS.m0.cs.c9
      go_wp2_with fail
      clear hS
      clear c9 qn
      refine (P3.out _).mono ?_
      rintro r w1 ⟨rfl, hb⟩
      have D := Lib.hid (D.out.call hb)
      have R0 := Lib.hid (R0.out.below hb)
      have HL := Lib.hid (HL.out.below hb)
      clear hb
      have bel := balloc (Below.refl w1.heap.size w1) (.cells #[.string x2] 9)
      have D := Lib.hid (D.out.call bel)
      have R0 := Lib.hid (R0.out.below bel)
      have HL := Lib.hid (HL.out.below bel)
      have hzz := D.out.bel.size
      have hz3 := R0.out.lt
      go_upto_region 12 with (first | (refine bs_one rfl _ rfl (s := x2) rfl ?_) | (at_builtin; refine app_one rfl _ _ rfl (w.heap.size + 1 + 1 + 1) _ [] x2 w1.heap.size 1 rfl HL.out rfl (cells_new x2 w1) ?cl12 ?cb12 ?_))
      case cl12 => exact Nat.zero_le _
      case cb12 => omega
      intro v' w2 hl hb hz
      have D := Lib.hid (D.out.under hb (by omega))
      have R0 := Lib.hid (R0.out.under hb (by omega))
      obtain ⟨ls, hls⟩ : ∃ l, l = [x2] := ⟨_, rfl⟩
      rw [← hls] at hl
      have HQ2 := Lib.hid hls
      obtain ⟨qa, qk, rfl⟩ := hl.slice
      have HL := Lib.hid hl
      clear hl hb hz bel hls hzz hz3
      have c9 := D.out.m0.cs.c9
      have d := nx_at D.out.s0 hk2
      have fd := D.out.s0.frozen (4 + k)
      go_upto_region 13 with (first | (refine st_yes (v := .pointer (some ⟨w.heap.size, 4 + k, none⟩)) (by rfl) rfl (ex_index rfl rfl rfl (index2 w.heap.size k hk2 _)) ?_))
      clear c9 d fd
      have D := Lib.hid (D.out.set (c' := (c : Kx).setN k m.next) (k := 4 + k) (v := .string m.next) (setN_cs _ _ hk2))
      have R0 := Lib.hid (R0.out.off (p := ⟨w.heap.size, 4 + k, none⟩) (by show w.heap.size + 1 + 1 ≠ w.heap.size; omega) (.string m.next))
      have HL := Lib.hid (HL.out.cellset (p := ⟨w.heap.size, 4 + k, none⟩) (by show w.heap.size < _; omega) (.string m.next))
      generalize w2.setCell ⟨w.heap.size, 4 + k, none⟩ (.string m.next) = V at *
      have HY := Lib.hid (show wayP c m = (ls, (c : Kx).setN k m.next, 0) by rw [HY.out, HQ2.out] <;> rfl)
      have R0 := Lib.hid (show Bk 25 V.drew (w.heap.size + 1 + 1) Kx.zero.cells from R0.out)
      have HB := Lib.hid (show Below w.heap.size w V.drew from D.out.bel.drew)
      have HL := Lib.hid (HL.out.below (Below.refl _ V).drew)
      refine wp_region_held_drew (S := fun X => Bk 25 X w.heap.size (Kx.cells ((c : Kx).setN k m.next))) (by kernel_rfl) (D.out.s0) (fun hS => ?_)
      clear D
      generalize V.drew = Z0 at *
      refine H.tk (i := 0) (v := .slice qa ls.length qk) ?h0x1df hS ?_
      case h0x1df => exact (fun w hw => by go_simp)
      try simp only [Act.put, List.setIfInBounds_toArray, List.set_cons_zero, List.set_cons_succ]
      refine H.tk (i := 1) (v := .agg (Kx.cells ((c : Kx).setN k m.next))) ?h1x2df hS ?_
      case h1x2df => exact (fun w hw => run_loadK shX (x := .tmp 2) rfl rfl hw rfl)
      try simp only [Act.put, List.setIfInBounds_toArray, List.set_cons_zero, List.set_cons_succ]
      refine H.tk (i := 2) (v := ?v2x3df) ?h2x3df hS ?_
      case h2x3df => (intro w hw; go_simp; first | done | (with_reducible rfl))
      try simp only [Act.put, List.setIfInBounds_toArray, List.set_cons_zero, List.set_cons_succ]
      refine H.one (i := 3) (by simp only [List.getElem?_toArray, List.getElem?_cons_succ, List.getElem?_cons_zero]; rfl) (by kernel_rfl) (by kernel_rfl) (fun K hK => ?_)
      refine wp_store_row 25 _ _ rfl (w.heap.size + 1 + 1) (Kx.cells ((c : Kx).setN k m.next)) rfl rfl 25 Kx.zero.cells R0.out infoX rfl (oneX _) ?_
      refine hK.out _ _ (hS.row (by omega) _) ?_
      clear hK K
      have hS := (show Bk 25 (Z0.setRow (w.heap.size + 1 + 1) (Kx.cells ((c : Kx).setN k m.next))) w.heap.size (Kx.cells ((c : Kx).setN k m.next)) from hS.row (by omega) _)
      try simp only [Act.put]
      refine H.tk (i := 4) (v := (Value.int IntKind.i64 0)) (fun w _ => rfl) hS ?_
      try simp only [Act.put, List.setIfInBounds_toArray, List.set_cons_zero, List.set_cons_succ]
      refine wpAnyH_done (by kernel_rfl) ?_ _
      go_wp2_with fail
      exact bodyPost_ret (v := .tuple #[.slice qa ls.length qk, .agg (Kx.cells ((c : Kx).setN k m.next)), .int .i64 0]) (results_mid (ty := 25) rfl _ _ (w.heap.size + 1 + 1) (.agg (Kx.cells ((c : Kx).setN k m.next))) (.slice qa ls.length qk) rfl rfl (loadVarK shX (R0.out.put (Kx.cells ((c : Kx).setN k m.next))) rfl) (.int .i64 0) rfl) rfl (by rw [HY.out]; exact ⟨qa, qk, rfl, (HL.out.under (by omega) _).mono (by omega), Box.below_setRow HB.out (by omega) _⟩)
  · by_cases hn : m.next = c.nx k
    · rw [decide_eq_false hz] at nm1 nm2
      rw [decide_eq_false hi] at qi
      rw [decide_eq_true hn] at qn
      rw [if_neg hi, if_pos hn] at hwp
      rw [hss hn] at hwp
      rw [show elB ([(idD m.id, 6)] ++ []) = [⟨(enc1 (idD m.id, 6)).toArray⟩] from rfl] at hwp
      have HY := Lib.hid hwp
      clear hwp hnn hss hbo hz hi hn
      generalize (⟨(enc1 (idD m.id, 6)).toArray⟩ : ByteArray) = x1 at *
      go_enter Tryz.func82, Tryz.ntmps82
      go_upto_region 1 with fail
      change Code.wp _ _ _ _ (((w.alloc (.cells c.cells 25)).alloc (.cells m.cells 29)).alloc (.cells Kx.zero.cells 25))
      have D := Lib.hid ((Us.start w c m hm).call (balloc (Below.refl _ _) (.cells Kx.zero.cells 25)))
      have R0 := Lib.hid (res_new w c m)
      clear hm
      generalize ((w.alloc (.cells c.cells 25)).alloc (.cells m.cells 29)).alloc (.cells Kx.zero.cells 25) = V at *
      have c5 := D.out.m0.cs.c5
      have c9 := D.out.m0.cs.c9
      have c10 := D.out.m0.cs.c10
      have c11 := D.out.m0.cs.c11
      have n0 := nx_at D.out.s0 hk2
      have i0 := D.out.s0.cell 6 (.string c.id) rfl
      have HL := Lib.hid (Lst.nil (w.heap.size + 1 + 1 + 1) V)
      go_wp2_with fail
      refine (P1.out _).mono ?_
      rintro r _ ⟨rfl, rfl⟩
      go_upto_region 7 with (first | (refine st_yes (v := .pointer (some ⟨w.heap.size, 4 + k, none⟩)) (by rfl) rfl (ex_index rfl rfl rfl (index2 w.heap.size k hk2 _)) ?_))
      clear nm1 nm2 nc1 nc2 e10 c5 c10
      go_wp2_with fail
      clear c9 c11 n0 i0 qi
      refine (P2.out _).mono ?_
      rintro r w1 ⟨rfl, hb⟩
      have D := Lib.hid (D.out.call hb)
      have R0 := Lib.hid (R0.out.below hb)
      have HL := Lib.hid (HL.out.below hb)
      clear hb
      have bel := balloc (Below.refl w1.heap.size w1) (.cells #[.string x1] 9)
      have D := Lib.hid (D.out.call bel)
      have R0 := Lib.hid (R0.out.below bel)
      have HL := Lib.hid (HL.out.below bel)
      have hzz := D.out.bel.size
      have hz3 := R0.out.lt
      go_upto_region 9 with (first | (refine bs_one rfl _ rfl (s := x1) rfl ?_) | (at_builtin; refine app_one rfl _ _ rfl (w.heap.size + 1 + 1 + 1) _ [] x1 w1.heap.size 1 rfl HL.out rfl (cells_new x1 w1) ?cl9 ?cb9 ?_))
      case cl9 => exact Nat.zero_le _
      case cb9 => omega
      intro v' w2 hl hb hz
      have D := Lib.hid (D.out.under hb (by omega))
      have R0 := Lib.hid (R0.out.under hb (by omega))
      obtain ⟨ls, hls⟩ : ∃ l, l = [x1] := ⟨_, rfl⟩
      rw [← hls] at hl
      have HQ1 := Lib.hid hls
      obtain ⟨qa, qk, rfl⟩ := hl.slice
      have HL := Lib.hid hl
      clear hl hb hz bel hls hzz hz3
      have c11 := D.out.m0.cs.c11
      have d := D.out.s0.cell 6 (.string c.id) rfl
      have fd := D.out.s0.frozen 6
      go_upto_region 10 with fail
      clear c11 d fd
      have D := Lib.hid (D.out.set (c' := { c with id := m.id }) (k := 6) (v := .string m.id) rfl)
      have R0 := Lib.hid (R0.out.off (p := ⟨w.heap.size, 6, none⟩) (by show w.heap.size + 1 + 1 ≠ w.heap.size; omega) (.string m.id))
      have HL := Lib.hid (HL.out.cellset (p := ⟨w.heap.size, 6, none⟩) (by show w.heap.size < _; omega) (.string m.id))
      generalize w2.setCell ⟨w.heap.size, 6, none⟩ (.string m.id) = V at *
      have R0 := Lib.hid (show Bk 25 V.drew (w.heap.size + 1 + 1) Kx.zero.cells from R0.out)
      have HL := Lib.hid (HL.out.below (Below.refl _ V).drew)
      refine wp_region_held_drew (S := fun W => Us w ({ c with id := m.id }) m W) (by kernel_rfl) D.out.drew (fun hS => ?_)
      clear D
      generalize V.drew = V at *
      refine H.tk (i := 0) (v := ?v0x1er) ?h0x1er hS ?_
      case h0x1er => (intro w hw; go_simp; first | done | (with_reducible rfl))
      try simp only [Act.put, List.setIfInBounds_toArray, List.set_cons_zero, List.set_cons_succ]
      refine H.tk (i := 1) (v := ?v1x2er) ?h1x2er hS ?_
      case h1x2er => (intro w hw; have c := (hw.m0).cs.c9; go_simp; first | done | (with_reducible rfl))
      try simp only [Act.put, List.setIfInBounds_toArray, List.set_cons_zero, List.set_cons_succ]
      refine H.tk (i := 2) (v := ?v2x3er) ?h2x3er hS ?_
      case h2x3er => (intro w hw; go_simp; first | done | (with_reducible rfl))
      try simp only [Act.put, List.setIfInBounds_toArray, List.set_cons_zero, List.set_cons_succ]
      refine H.tk (i := 3) (v := ?v3x4er) ?h3x4er hS ?_
      case h3x4er => (intro w hw; go_simp; first | done | (with_reducible rfl))
      try simp only [Act.put, List.setIfInBounds_toArray, List.set_cons_zero, List.set_cons_succ]
      refine H.tk (i := 4) (v := .pointer (some ⟨w.heap.size, 4 + k, none⟩)) ?h4x5er hS ?_
      case h4x5er => exact (fun w1 hw => ex_index (vx := .pointer (some ⟨w.heap.size, 4, none⟩)) (vy := .int .i64 (k : Int)) rfl rfl rfl (index2 _ _ hk2 _))
      try simp only [Act.put, List.setIfInBounds_toArray, List.set_cons_zero, List.set_cons_succ]
      refine H.tk (i := 5) (v := ?v5x6er) ?h5x6er hS ?_
      case h5x6er => (intro w hw; have c : _ = some (Value.string (c.nx k)) := nx_at hw.s0 hk2; go_simp; first | done | (with_reducible rfl))
      try simp only [Act.put, List.setIfInBounds_toArray, List.set_cons_zero, List.set_cons_succ]
      refine H.tk (i := 6) (v := ?v6x7er) ?h6x7er hS ?_
      case h6x7er => (intro w hw; go_simp; first | done | (with_reducible rfl))
      try simp only [Act.put, List.setIfInBounds_toArray, List.set_cons_zero, List.set_cons_succ]
      refine wpAnyH_done (by kernel_rfl) ?_ _
      have D := Lib.hid hS
      go_upto_region 13 with fail
      clear hS
      have HY := Lib.hid (show wayP c m = (ls, { c with id := m.id }, 0) by rw [HY.out, HQ1.out] <;> rfl)
      have R0 := Lib.hid (show Bk 25 V.drew (w.heap.size + 1 + 1) Kx.zero.cells from R0.out)
      have HB := Lib.hid (show Below w.heap.size w V.drew from D.out.bel.drew)
      have HL := Lib.hid (HL.out.below (Below.refl _ V).drew)
      refine wp_region_held_drew (S := fun X => Bk 25 X w.heap.size (Kx.cells ({ c with id := m.id }))) (by kernel_rfl) (D.out.s0) (fun hS => ?_)
      clear D
      generalize V.drew = Z0 at *
      refine H.tk (i := 0) (v := .slice qa ls.length qk) ?h0x1ef hS ?_
      case h0x1ef => exact (fun w hw => by go_simp)
      try simp only [Act.put, List.setIfInBounds_toArray, List.set_cons_zero, List.set_cons_succ]
      refine H.tk (i := 1) (v := .agg (Kx.cells ({ c with id := m.id }))) ?h1x2ef hS ?_
      case h1x2ef => exact (fun w hw => run_loadK shX (x := .tmp 2) rfl rfl hw rfl)
      try simp only [Act.put, List.setIfInBounds_toArray, List.set_cons_zero, List.set_cons_succ]
      refine H.tk (i := 2) (v := ?v2x3ef) ?h2x3ef hS ?_
      case h2x3ef => (intro w hw; go_simp; first | done | (with_reducible rfl))
      try simp only [Act.put, List.setIfInBounds_toArray, List.set_cons_zero, List.set_cons_succ]
      refine H.one (i := 3) (by simp only [List.getElem?_toArray, List.getElem?_cons_succ, List.getElem?_cons_zero]; rfl) (by kernel_rfl) (by kernel_rfl) (fun K hK => ?_)
      refine wp_store_row 25 _ _ rfl (w.heap.size + 1 + 1) (Kx.cells ({ c with id := m.id })) rfl rfl 25 Kx.zero.cells R0.out infoX rfl (oneX _) ?_
      refine hK.out _ _ (hS.row (by omega) _) ?_
      clear hK K
      have hS := (show Bk 25 (Z0.setRow (w.heap.size + 1 + 1) (Kx.cells ({ c with id := m.id }))) w.heap.size (Kx.cells ({ c with id := m.id })) from hS.row (by omega) _)
      try simp only [Act.put]
      refine H.tk (i := 4) (v := (Value.int IntKind.i64 0)) (fun w _ => rfl) hS ?_
      try simp only [Act.put, List.setIfInBounds_toArray, List.set_cons_zero, List.set_cons_succ]
      refine wpAnyH_done (by kernel_rfl) ?_ _
      go_wp2_with fail
      exact bodyPost_ret (v := .tuple #[.slice qa ls.length qk, .agg (Kx.cells ({ c with id := m.id })), .int .i64 0]) (results_mid (ty := 25) rfl _ _ (w.heap.size + 1 + 1) (.agg (Kx.cells ({ c with id := m.id }))) (.slice qa ls.length qk) rfl rfl (loadVarK shX (R0.out.put (Kx.cells ({ c with id := m.id }))) rfl) (.int .i64 0) rfl) rfl (by rw [HY.out]; exact ⟨qa, qk, rfl, (HL.out.under (by omega) _).mono (by omega), Box.below_setRow HB.out (by omega) _⟩)
    · rw [decide_eq_false hz] at nm1 nm2
      rw [decide_eq_false hi] at qi
      rw [decide_eq_false hn] at qn
      rw [if_neg hi, if_neg hn] at hwp
      have P3 := Lib.hid (fun V => hop_any m.next V (by rcases hnn with e | e; exact absurd e hn; exact e.1))
      rw [show elB ([(idD m.id, 6)] ++ [(hopD m.next, 7)]) = [⟨(enc1 (idD m.id, 6)).toArray⟩, ⟨(enc1 (hopD m.next, 7)).toArray⟩] from rfl] at hwp
      have HY := Lib.hid hwp
      clear hwp hnn hss hbo hz hi hn
      generalize (⟨(enc1 (idD m.id, 6)).toArray⟩ : ByteArray) = x1 at *
      generalize (⟨(enc1 (hopD m.next, 7)).toArray⟩ : ByteArray) = x2 at *
      go_enter Tryz.func82, Tryz.ntmps82
      go_upto_region 1 with fail
      change Code.wp _ _ _ _ (((w.alloc (.cells c.cells 25)).alloc (.cells m.cells 29)).alloc (.cells Kx.zero.cells 25))
      have D := Lib.hid ((Us.start w c m hm).call (balloc (Below.refl _ _) (.cells Kx.zero.cells 25)))
      have R0 := Lib.hid (res_new w c m)
      clear hm
      generalize ((w.alloc (.cells c.cells 25)).alloc (.cells m.cells 29)).alloc (.cells Kx.zero.cells 25) = V at *
      have c5 := D.out.m0.cs.c5
      have c9 := D.out.m0.cs.c9
      have c10 := D.out.m0.cs.c10
      have c11 := D.out.m0.cs.c11
      have n0 := nx_at D.out.s0 hk2
      have i0 := D.out.s0.cell 6 (.string c.id) rfl
      have HL := Lib.hid (Lst.nil (w.heap.size + 1 + 1 + 1) V)
      go_wp2_with fail
      refine (P1.out _).mono ?_
      rintro r _ ⟨rfl, rfl⟩
      go_upto_region 7 with (first | (refine st_yes (v := .pointer (some ⟨w.heap.size, 4 + k, none⟩)) (by rfl) rfl (ex_index rfl rfl rfl (index2 w.heap.size k hk2 _)) ?_))
      clear nm1 nm2 nc1 nc2 e10 c5 c10
      go_wp2_with fail
      clear c9 c11 n0 i0 qi
      refine (P2.out _).mono ?_
      rintro r w1 ⟨rfl, hb⟩
      have D := Lib.hid (D.out.call hb)
      have R0 := Lib.hid (R0.out.below hb)
      have HL := Lib.hid (HL.out.below hb)
      clear hb
      have bel := balloc (Below.refl w1.heap.size w1) (.cells #[.string x1] 9)
      have D := Lib.hid (D.out.call bel)
      have R0 := Lib.hid (R0.out.below bel)
      have HL := Lib.hid (HL.out.below bel)
      have hzz := D.out.bel.size
      have hz3 := R0.out.lt
      go_upto_region 9 with (first | (refine bs_one rfl _ rfl (s := x1) rfl ?_) | (at_builtin; refine app_one rfl _ _ rfl (w.heap.size + 1 + 1 + 1) _ [] x1 w1.heap.size 1 rfl HL.out rfl (cells_new x1 w1) ?cl9 ?cb9 ?_))
      case cl9 => exact Nat.zero_le _
      case cb9 => omega
      intro v' w2 hl hb hz
      have D := Lib.hid (D.out.under hb (by omega))
      have R0 := Lib.hid (R0.out.under hb (by omega))
      obtain ⟨ls1, hls⟩ : ∃ l, l = [x1] := ⟨_, rfl⟩
      rw [← hls] at hl
      have HQ1 := Lib.hid hls
      obtain ⟨qa, qk, rfl⟩ := hl.slice
      have HL := Lib.hid hl
      clear hl hb hz bel hls hzz hz3
      have c11 := D.out.m0.cs.c11
      have d := D.out.s0.cell 6 (.string c.id) rfl
      have fd := D.out.s0.frozen 6
      go_upto_region 10 with fail
      clear c11 d fd
      have D := Lib.hid (D.out.set (c' := { c with id := m.id }) (k := 6) (v := .string m.id) rfl)
      have R0 := Lib.hid (R0.out.off (p := ⟨w.heap.size, 6, none⟩) (by show w.heap.size + 1 + 1 ≠ w.heap.size; omega) (.string m.id))
      have HL := Lib.hid (HL.out.cellset (p := ⟨w.heap.size, 6, none⟩) (by show w.heap.size < _; omega) (.string m.id))
      generalize w2.setCell ⟨w.heap.size, 6, none⟩ (.string m.id) = V at *
      have R0 := Lib.hid (show Bk 25 V.drew (w.heap.size + 1 + 1) Kx.zero.cells from R0.out)
      have HL := Lib.hid (HL.out.below (Below.refl _ V).drew)
      refine wp_region_held_drew (S := fun W => Us w ({ c with id := m.id }) m W) (by kernel_rfl) D.out.drew (fun hS => ?_)
      clear D
      generalize V.drew = V at *
      refine H.tk (i := 0) (v := ?v0x1gr) ?h0x1gr hS ?_
      case h0x1gr => (intro w hw; go_simp; first | done | (with_reducible rfl))
      try simp only [Act.put, List.setIfInBounds_toArray, List.set_cons_zero, List.set_cons_succ]
      refine H.tk (i := 1) (v := ?v1x2gr) ?h1x2gr hS ?_
      case h1x2gr => (intro w hw; have c := (hw.m0).cs.c9; go_simp; first | done | (with_reducible rfl))
      try simp only [Act.put, List.setIfInBounds_toArray, List.set_cons_zero, List.set_cons_succ]
      refine H.tk (i := 2) (v := ?v2x3gr) ?h2x3gr hS ?_
      case h2x3gr => (intro w hw; go_simp; first | done | (with_reducible rfl))
      try simp only [Act.put, List.setIfInBounds_toArray, List.set_cons_zero, List.set_cons_succ]
      refine H.tk (i := 3) (v := ?v3x4gr) ?h3x4gr hS ?_
      case h3x4gr => (intro w hw; go_simp; first | done | (with_reducible rfl))
      try simp only [Act.put, List.setIfInBounds_toArray, List.set_cons_zero, List.set_cons_succ]
      refine H.tk (i := 4) (v := .pointer (some ⟨w.heap.size, 4 + k, none⟩)) ?h4x5gr hS ?_
      case h4x5gr => exact (fun w1 hw => ex_index (vx := .pointer (some ⟨w.heap.size, 4, none⟩)) (vy := .int .i64 (k : Int)) rfl rfl rfl (index2 _ _ hk2 _))
      try simp only [Act.put, List.setIfInBounds_toArray, List.set_cons_zero, List.set_cons_succ]
      refine H.tk (i := 5) (v := ?v5x6gr) ?h5x6gr hS ?_
      case h5x6gr => (intro w hw; have c : _ = some (Value.string (c.nx k)) := nx_at hw.s0 hk2; go_simp; first | done | (with_reducible rfl))
      try simp only [Act.put, List.setIfInBounds_toArray, List.set_cons_zero, List.set_cons_succ]
      refine H.tk (i := 6) (v := ?v6x7gr) ?h6x7gr hS ?_
      case h6x7gr => (intro w hw; go_simp; first | done | (with_reducible rfl))
      try simp only [Act.put, List.setIfInBounds_toArray, List.set_cons_zero, List.set_cons_succ]
      refine wpAnyH_done (by kernel_rfl) ?_ _
      have D := Lib.hid hS
      have c9 := hS.m0.cs.c9
      go_wp2_with fail
      clear hS
      clear c9 qn
      refine (P3.out _).mono ?_
      rintro r w1 ⟨rfl, hb⟩
      have D := Lib.hid (D.out.call hb)
      have R0 := Lib.hid (R0.out.below hb)
      have HL := Lib.hid (HL.out.below hb)
      clear hb
      have bel := balloc (Below.refl w1.heap.size w1) (.cells #[.string x2] 9)
      have D := Lib.hid (D.out.call bel)
      have R0 := Lib.hid (R0.out.below bel)
      have HL := Lib.hid (HL.out.below bel)
      have hzz := D.out.bel.size
      have hz3 := R0.out.lt
      go_upto_region 12 with (first | (refine bs_one rfl _ rfl (s := x2) rfl ?_) | (at_builtin; refine app_one rfl _ _ rfl (w.heap.size + 1 + 1 + 1) _ ls1 x2 w1.heap.size 1 rfl HL.out rfl (cells_new x2 w1) ?cl12 ?cb12 ?_))
      case cl12 => (rw [HQ1.out]; exact (by decide : 1 ≤ 100000))
      case cb12 => omega
      intro v' w2 hl hb hz
      have D := Lib.hid (D.out.under hb (by omega))
      have R0 := Lib.hid (R0.out.under hb (by omega))
      obtain ⟨ls, hls⟩ : ∃ l, l = ls1 ++ [x2] := ⟨_, rfl⟩
      rw [← hls] at hl
      have HQ2 := Lib.hid hls
      obtain ⟨qa, qk, rfl⟩ := hl.slice
      have HL := Lib.hid hl
      clear hl hb hz bel hls hzz hz3
      have c9 := D.out.m0.cs.c9
      have d := nx_at D.out.s0 hk2
      have fd := D.out.s0.frozen (4 + k)
      go_upto_region 13 with (first | (refine st_yes (v := .pointer (some ⟨w.heap.size, 4 + k, none⟩)) (by rfl) rfl (ex_index rfl rfl rfl (index2 w.heap.size k hk2 _)) ?_))
      clear c9 d fd
      have D := Lib.hid (D.out.set (c' := ({ c with id := m.id } : Kx).setN k m.next) (k := 4 + k) (v := .string m.next) (setN_cs _ _ hk2))
      have R0 := Lib.hid (R0.out.off (p := ⟨w.heap.size, 4 + k, none⟩) (by show w.heap.size + 1 + 1 ≠ w.heap.size; omega) (.string m.next))
      have HL := Lib.hid (HL.out.cellset (p := ⟨w.heap.size, 4 + k, none⟩) (by show w.heap.size < _; omega) (.string m.next))
      generalize w2.setCell ⟨w.heap.size, 4 + k, none⟩ (.string m.next) = V at *
      have HY := Lib.hid (show wayP c m = (ls, ({ c with id := m.id } : Kx).setN k m.next, 0) by rw [HY.out, HQ2.out, HQ1.out] <;> rfl)
      have R0 := Lib.hid (show Bk 25 V.drew (w.heap.size + 1 + 1) Kx.zero.cells from R0.out)
      have HB := Lib.hid (show Below w.heap.size w V.drew from D.out.bel.drew)
      have HL := Lib.hid (HL.out.below (Below.refl _ V).drew)
      refine wp_region_held_drew (S := fun X => Bk 25 X w.heap.size (Kx.cells (({ c with id := m.id } : Kx).setN k m.next))) (by kernel_rfl) (D.out.s0) (fun hS => ?_)
      clear D
      generalize V.drew = Z0 at *
      refine H.tk (i := 0) (v := .slice qa ls.length qk) ?h0x1gf hS ?_
      case h0x1gf => exact (fun w hw => by go_simp)
      try simp only [Act.put, List.setIfInBounds_toArray, List.set_cons_zero, List.set_cons_succ]
      refine H.tk (i := 1) (v := .agg (Kx.cells (({ c with id := m.id } : Kx).setN k m.next))) ?h1x2gf hS ?_
      case h1x2gf => exact (fun w hw => run_loadK shX (x := .tmp 2) rfl rfl hw rfl)
      try simp only [Act.put, List.setIfInBounds_toArray, List.set_cons_zero, List.set_cons_succ]
      refine H.tk (i := 2) (v := ?v2x3gf) ?h2x3gf hS ?_
      case h2x3gf => (intro w hw; go_simp; first | done | (with_reducible rfl))
      try simp only [Act.put, List.setIfInBounds_toArray, List.set_cons_zero, List.set_cons_succ]
      refine H.one (i := 3) (by simp only [List.getElem?_toArray, List.getElem?_cons_succ, List.getElem?_cons_zero]; rfl) (by kernel_rfl) (by kernel_rfl) (fun K hK => ?_)
      refine wp_store_row 25 _ _ rfl (w.heap.size + 1 + 1) (Kx.cells (({ c with id := m.id } : Kx).setN k m.next)) rfl rfl 25 Kx.zero.cells R0.out infoX rfl (oneX _) ?_
      refine hK.out _ _ (hS.row (by omega) _) ?_
      clear hK K
      have hS := (show Bk 25 (Z0.setRow (w.heap.size + 1 + 1) (Kx.cells (({ c with id := m.id } : Kx).setN k m.next))) w.heap.size (Kx.cells (({ c with id := m.id } : Kx).setN k m.next)) from hS.row (by omega) _)
      try simp only [Act.put]
      refine H.tk (i := 4) (v := (Value.int IntKind.i64 0)) (fun w _ => rfl) hS ?_
      try simp only [Act.put, List.setIfInBounds_toArray, List.set_cons_zero, List.set_cons_succ]
      refine wpAnyH_done (by kernel_rfl) ?_ _
      go_wp2_with fail
      exact bodyPost_ret (v := .tuple #[.slice qa ls.length qk, .agg (Kx.cells (({ c with id := m.id } : Kx).setN k m.next)), .int .i64 0]) (results_mid (ty := 25) rfl _ _ (w.heap.size + 1 + 1) (.agg (Kx.cells (({ c with id := m.id } : Kx).setN k m.next))) (.slice qa ls.length qk) rfl rfl (loadVarK shX (R0.out.put (Kx.cells (({ c with id := m.id } : Kx).setN k m.next))) rfl) (.int .i64 0) rfl) rfl (by rw [HY.out]; exact ⟨qa, qk, rfl, (HL.out.under (by omega) _).mono (by omega), Box.below_setRow HB.out (by omega) _⟩)
end Go.Proofs.YtfegdblaohhdoaaGreatDoor.Lw
namespace Go.Proofs.YtfegdblaohhdoaaGreatDoor.G2
open Go.ChangeShapes Go.WideShapes Go.ChangeAt Go.RowKit
open Go.Proofs.YtfegdblaohhdoaaGreatDoor.Ms
open Go.Proofs.YtfegdblaohhdoaaGreatDoor.Box
open Go.Proofs.YtfegdblaohhdoaaGreatDoor.S1
open Go.Proofs.YtfegdblaohhdoaaGreatDoor.Lk
open Go.Proofs.YtfegdblaohhdoaaGreatDoor.G1
open Go.Proofs.YtfegdblaohhdoaaGreatDoor.An
open Go.Proofs.YtfegdblaohhdoaaGreatDoor.Tc
open Go.Proofs.YtfegdblaohhdoaaGreatDoor.Oct (fitsB)
open Go.Proofs.YtfegdblaohhdoaaGreatDoor.Hs (run_loadM)
open Go.Proofs.YtfegdblaohhdoaaGreatDoor.Or (st_yes)
set_option linter.unusedVariables false
set_option maxRecDepth 100000
set_option maxRecDepth 100000
theorem bool_eq {a b : Bool} (h : a = b) : Ending.returned (.bool a) = .returned (.bool b) := by rw [h]
theorem pair_eq {s t : ByteArray} {b c : Bool} (h : s = t) (k : b = c) : Ending.returned (.tuple #[.string s, .bool b]) = .returned (.tuple #[.string t, .bool c]) := by rw [h, k]
theorem ae_any (n : Int) (w : World) : Calls Tryz.prog 126 #[.int .i64 n] w fun e w' => e = .returned (.bool (decide (0 ≤ n ∧ n ≤ 3))) ∧ w = w' := by
  by_cases h0 : 0 ≤ n
  rotate_left
  · rw [decide_eq_false (fun h => h0 h.1)]
    go_enter Tryz.func126, Tryz.ntmps126
    go_wp2
    go_ret
    exact ⟨rfl, rfl⟩
  by_cases h1 : n ≤ 3
  rotate_left
  · rw [decide_eq_false (fun h => h1 h.2)]
    go_enter Tryz.func126, Tryz.ntmps126
    go_wp2
    go_ret
    exact ⟨bool_eq (decide_eq_false (by omega)), rfl⟩
  rw [decide_eq_true ⟨h0, h1⟩]
  go_enter Tryz.func126, Tryz.ntmps126
  go_wp2
  go_ret
  exact ⟨bool_eq (decide_eq_true (by omega)), rfl⟩
set_option maxHeartbeats 1600000 in
theorem shorten_any (ae : Int) (a : ByteArray) (w : World) (ht : Tab w) : Calls Tryz.prog 94 #[.int .i64 ae, .string a] w fun e w' => e = .returned (.tuple #[.string (shT ae a), .bool (shB ae a)]) ∧ w = w' := by
  by_cases h3 : ae = 3
  · subst h3
    have P := Lib.hid (fun V => short_any a V)
    have HZ := Lib.hid (sh_3 a)
    clear ht
    go_enter Tryz.func94, Tryz.ntmps94
    go_wp2_with fail
    refine (P.out _).mono ?_
    rintro e w' ⟨rfl, rfl⟩
    go_wp2
    go_ret2
    exact ⟨pair_eq HZ.out.2.symm HZ.out.1.symm, rfl⟩
  have P := Lib.hid (fun V => ae_any ae V)
  have HS := Lib.hid (sh_n h3 a)
  by_cases hi : 0 ≤ ae ∧ ae ≤ 3
  rotate_left
  · have HZ := Lib.hid (show shB ae a = false ∧ shT ae a = ⟨#[]⟩ from by
      have e : shB ae a = false := by rw [HS.out.1, decide_eq_false hi]; rfl
      exact ⟨e, by rw [HS.out.2, e]; rfl⟩)
    rw [decide_eq_false hi] at P
    clear ht hi HS
    go_enter Tryz.func94, Tryz.ntmps94
    go_wp2_with fail
    refine (P.out _).mono ?_
    rintro e w' ⟨rfl, rfl⟩
    go_wp2
    go_ret2
    exact ⟨pair_eq HZ.out.2.symm HZ.out.1.symm, rfl⟩
  rw [decide_eq_true hi] at P
  rw [decide_eq_true hi] at HS
  obtain ⟨s0, s1, s2, s3⟩ := ht
  rcases (show ae = 0 ∨ ae = 1 ∨ ae = 2 by omega) with rfl | rfl | rfl
  · by_cases hz : a.size = 0
    · have hq : (a.size : Int) = 0 := by omega
      have HZ := Lib.hid (show shB 0 a = true ∧ shT 0 a = a from by
        have e : shB 0 a = true := by rw [HS.out.1, decide_eq_true (show a.size = sizeA 0 from hz)]; rfl
        exact ⟨e, by rw [HS.out.2, e]; rfl⟩)
      clear hz hi h3 HS
      go_enter Tryz.func94, Tryz.ntmps94
      go_wp2_with fail
      refine (P.out _).mono ?_
      rintro e w' ⟨rfl, rfl⟩
      go_wp2
      go_ret2
      exact ⟨pair_eq HZ.out.2.symm HZ.out.1.symm, rfl⟩
    · have hq : ((a.size : Int) == 0) = false := by simpa using (show ¬ (a.size : Int) = 0 by omega)
      have hq2 : ((a.size : Int) != 0) = true := by rw [bne, hq]; rfl
      have HZ := Lib.hid (show shB 0 a = false ∧ shT 0 a = ⟨#[]⟩ from by
        have e : shB 0 a = false := by rw [HS.out.1, decide_eq_false (show ¬ a.size = sizeA 0 from hz)]; rfl
        exact ⟨e, by rw [HS.out.2, e]; rfl⟩)
      clear hz hi h3 HS
      go_enter Tryz.func94, Tryz.ntmps94
      go_wp2_with fail
      refine (P.out _).mono ?_
      rintro e w' ⟨rfl, rfl⟩
      go_wp2
      go_ret2
      exact ⟨pair_eq HZ.out.2.symm HZ.out.1.symm, rfl⟩
  · by_cases hz : a.size = 4
    · have hq : (a.size : Int) = 4 := by omega
      have HZ := Lib.hid (show shB 1 a = true ∧ shT 1 a = a from by
        have e : shB 1 a = true := by rw [HS.out.1, decide_eq_true (show a.size = sizeA 1 from hz)]; rfl
        exact ⟨e, by rw [HS.out.2, e]; rfl⟩)
      clear hz hi h3 HS
      go_enter Tryz.func94, Tryz.ntmps94
      go_wp2_with fail
      refine (P.out _).mono ?_
      rintro e w' ⟨rfl, rfl⟩
      go_wp2
      go_ret2
      exact ⟨pair_eq HZ.out.2.symm HZ.out.1.symm, rfl⟩
    · have hq : ((a.size : Int) == 4) = false := by simpa using (show ¬ (a.size : Int) = 4 by omega)
      have hq2 : ((a.size : Int) != 4) = true := by rw [bne, hq]; rfl
      have HZ := Lib.hid (show shB 1 a = false ∧ shT 1 a = ⟨#[]⟩ from by
        have e : shB 1 a = false := by rw [HS.out.1, decide_eq_false (show ¬ a.size = sizeA 1 from hz)]; rfl
        exact ⟨e, by rw [HS.out.2, e]; rfl⟩)
      clear hz hi h3 HS
      go_enter Tryz.func94, Tryz.ntmps94
      go_wp2_with fail
      refine (P.out _).mono ?_
      rintro e w' ⟨rfl, rfl⟩
      go_wp2
      go_ret2
      exact ⟨pair_eq HZ.out.2.symm HZ.out.1.symm, rfl⟩
  · by_cases hz : a.size = 16
    · have hq : (a.size : Int) = 16 := by omega
      have HZ := Lib.hid (show shB 2 a = true ∧ shT 2 a = a from by
        have e : shB 2 a = true := by rw [HS.out.1, decide_eq_true (show a.size = sizeA 2 from hz)]; rfl
        exact ⟨e, by rw [HS.out.2, e]; rfl⟩)
      clear hz hi h3 HS
      go_enter Tryz.func94, Tryz.ntmps94
      go_wp2_with fail
      refine (P.out _).mono ?_
      rintro e w' ⟨rfl, rfl⟩
      go_wp2
      go_ret2
      exact ⟨pair_eq HZ.out.2.symm HZ.out.1.symm, rfl⟩
    · have hq : ((a.size : Int) == 16) = false := by simpa using (show ¬ (a.size : Int) = 16 by omega)
      have hq2 : ((a.size : Int) != 16) = true := by rw [bne, hq]; rfl
      have HZ := Lib.hid (show shB 2 a = false ∧ shT 2 a = ⟨#[]⟩ from by
        have e : shB 2 a = false := by rw [HS.out.1, decide_eq_false (show ¬ a.size = sizeA 2 from hz)]; rfl
        exact ⟨e, by rw [HS.out.2, e]; rfl⟩)
      clear hz hi h3 HS
      go_enter Tryz.func94, Tryz.ntmps94
      go_wp2_with fail
      refine (P.out _).mono ?_
      rintro e w' ⟨rfl, rfl⟩
      go_wp2
      go_ret2
      exact ⟨pair_eq HZ.out.2.symm HZ.out.1.symm, rfl⟩
set_option maxHeartbeats 3200000 in
theorem nums_any (m : M) (w : World) : Calls Tryz.prog 56 #[.agg m.cells] w fun e w' => e = .returned (.bool (nums m)) ∧ Below w.heap.size w w' := by
  have HB := Lib.hid (balloc (Below.refl _ w) (.cells m.cells 29))
  have b0 := Bx.new w m
  have HK := Lib.hid (show nums m = (fitsB m.nonce 2 && (fitsB m.interval 2 && (fitsB m.seq 2 && fitsB m.cost 2))) from rfl)
  have P1 := Lib.hid (fun V => Oct.fits_any m.nonce 2 V)
  have P2 := Lib.hid (fun V => Oct.fits_any m.interval 2 V)
  have P3 := Lib.hid (fun V => Oct.fits_any m.seq 2 V)
  have P4 := Lib.hid (fun V => Oct.fits_any m.cost 2 V)
  generalize nums m = y at *
  generalize fitsB m.nonce 2 = x1 at *
  generalize fitsB m.interval 2 = x2 at *
  generalize fitsB m.seq 2 = x3 at *
  generalize fitsB m.cost 2 = x4 at *
  go_enter Tryz.func56, Tryz.ntmps56
  go_upto_region 1 with fail
  generalize w.alloc (.cells m.cells 29) = V at *
  have c17 := b0.cs.c17
  have c14 := b0.cs.c14
  have c12 := b0.cs.c12
  have c18 := b0.cs.c18
  clear b0
  cases x1
  · go_wp2_with fail
    refine (P1.out _).mono ?_
    rintro r w' ⟨rfl, rfl⟩
    go_wp2
    go_ret
    exact ⟨bool_eq HK.out.symm, HB.out⟩
  cases x2
  · go_wp2_with fail
    refine (P1.out _).mono ?_
    rintro r w' ⟨rfl, rfl⟩
    go_wp2_with fail
    refine (P2.out _).mono ?_
    rintro r w' ⟨rfl, rfl⟩
    go_wp2
    go_ret
    exact ⟨bool_eq HK.out.symm, HB.out⟩
  cases x3
  · go_wp2_with fail
    refine (P1.out _).mono ?_
    rintro r w' ⟨rfl, rfl⟩
    go_wp2_with fail
    refine (P2.out _).mono ?_
    rintro r w' ⟨rfl, rfl⟩
    go_wp2_with fail
    refine (P3.out _).mono ?_
    rintro r w' ⟨rfl, rfl⟩
    go_wp2
    go_ret
    exact ⟨bool_eq HK.out.symm, HB.out⟩
  go_wp2_with fail
  refine (P1.out _).mono ?_
  rintro r w' ⟨rfl, rfl⟩
  go_wp2_with fail
  refine (P2.out _).mono ?_
  rintro r w' ⟨rfl, rfl⟩
  go_wp2_with fail
  refine (P3.out _).mono ?_
  rintro r w' ⟨rfl, rfl⟩
  go_wp2_with fail
  refine (P4.out _).mono ?_
  rintro r w' ⟨rfl, rfl⟩
  go_wp2
  go_ret
  exact ⟨bool_eq HK.out.symm, HB.out⟩
set_option maxHeartbeats 3200000 in
theorem kind_any (m : M) (w : World) (ht : Tab w) : Calls Tryz.prog 57 #[.agg m.cells] w fun e w' => e = .returned (.bool (kindB m)) ∧ Below w.heap.size w w' := by
  have HB := Lib.hid (balloc (Below.refl _ w) (.cells m.cells 29))
  have b0 := Bx.new w m
  have P := Lib.hid (fun (h : Tab w) => shorten_any m.ae m.addr _ (h.below HB.out))
  have P := Lib.hid (P.out ht)
  clear ht
  by_cases h7 : m.kind = 7
  · have HK := Lib.hid (show kindB m = true by unfold kindB; rw [if_pos (.inl h7)])
    go_enter Tryz.func57, Tryz.ntmps57
    go_upto_region 1 with fail
    generalize w.alloc (.cells m.cells 29) = V at *
    have c0 := b0.cs.c0
    have c5 := b0.cs.c5
    have c15 := b0.cs.c15
    have c19 := b0.cs.c19
    clear b0
    rw [h7] at c0
    go_wp2
    go_ret
    exact ⟨bool_eq HK.out.symm, HB.out⟩
  by_cases h8 : m.kind = 8
  · have HK := Lib.hid (show kindB m = true by unfold kindB; rw [if_pos (.inr h8)])
    go_enter Tryz.func57, Tryz.ntmps57
    go_upto_region 1 with fail
    generalize w.alloc (.cells m.cells 29) = V at *
    have c0 := b0.cs.c0
    have c5 := b0.cs.c5
    have c15 := b0.cs.c15
    have c19 := b0.cs.c19
    clear b0
    rw [h8] at c0
    go_wp2
    go_ret
    exact ⟨bool_eq HK.out.symm, HB.out⟩
  by_cases h9 : m.kind = 9
  · by_cases g0 : 0 ≤ m.flags
    rotate_left
    · have HK := Lib.hid (show kindB m = false by unfold kindB; rw [if_neg (by omega), if_pos h9, decide_eq_false (fun h => g0 h.1)])
      go_enter Tryz.func57, Tryz.ntmps57
      go_upto_region 1 with fail
      generalize w.alloc (.cells m.cells 29) = V at *
      have c0 := b0.cs.c0
      have c5 := b0.cs.c5
      have c15 := b0.cs.c15
      have c19 := b0.cs.c19
      clear b0
      rw [h9] at c0
      clear h7 h8 h9
      go_wp2
      go_ret
      exact ⟨bool_eq HK.out.symm, HB.out⟩
    by_cases g1 : m.flags ≤ 1
    rotate_left
    · have HK := Lib.hid (show kindB m = false by unfold kindB; rw [if_neg (by omega), if_pos h9, decide_eq_false (fun h => g1 h.2)])
      go_enter Tryz.func57, Tryz.ntmps57
      go_upto_region 1 with fail
      generalize w.alloc (.cells m.cells 29) = V at *
      have c0 := b0.cs.c0
      have c5 := b0.cs.c5
      have c15 := b0.cs.c15
      have c19 := b0.cs.c19
      clear b0
      rw [h9] at c0
      clear h7 h8 h9
      go_wp2
      go_ret
      exact ⟨bool_eq HK.out.symm, HB.out⟩
    have HK := Lib.hid (show kindB m = true by unfold kindB; rw [if_neg (by omega), if_pos h9, decide_eq_true ⟨g0, g1⟩])
    go_enter Tryz.func57, Tryz.ntmps57
    go_upto_region 1 with fail
    generalize w.alloc (.cells m.cells 29) = V at *
    have c0 := b0.cs.c0
    have c5 := b0.cs.c5
    have c15 := b0.cs.c15
    have c19 := b0.cs.c19
    clear b0
    rw [h9] at c0
    clear h7 h8 h9
    go_wp2
    go_ret
    exact ⟨bool_eq HK.out.symm, HB.out⟩
  by_cases h10 : m.kind = 10
  · have HK := Lib.hid (show kindB m = shB m.ae m.addr by unfold kindB; rw [if_neg (by omega), if_neg h9, if_pos h10])
    go_enter Tryz.func57, Tryz.ntmps57
    go_upto_region 1 with fail
    generalize w.alloc (.cells m.cells 29) = V at *
    have c0 := b0.cs.c0
    have c5 := b0.cs.c5
    have c15 := b0.cs.c15
    have c19 := b0.cs.c19
    clear b0
    rw [h10] at c0
    clear h7 h8 h9 h10
    go_wp2_with fail
    refine P.out.mono ?_
    rintro r w' ⟨rfl, rfl⟩
    go_wp2
    go_ret
    exact ⟨bool_eq HK.out.symm, HB.out⟩
  have HK := Lib.hid (show kindB m = false by unfold kindB; rw [if_neg (by omega), if_neg h9, if_neg h10])
  have e7 : (m.kind == 7) = false := by simpa using h7
  have e8 : (m.kind == 8) = false := by simpa using h8
  have e9 : (m.kind == 9) = false := by simpa using h9
  have e10 : (m.kind == 10) = false := by simpa using h10
  go_enter Tryz.func57, Tryz.ntmps57
  go_upto_region 1 with fail
  generalize w.alloc (.cells m.cells 29) = V at *
  have c0 := b0.cs.c0
  have c5 := b0.cs.c5
  have c15 := b0.cs.c15
  have c19 := b0.cs.c19
  clear b0
  go_wp2
  go_ret
  exact ⟨bool_eq HK.out.symm, HB.out⟩
theorem mbare_any (m : M) (w : World) (hm : m.In w) : Calls Tryz.prog 31 #[.agg m.cells] w fun e w' => e = .returned (.bool (bare m)) ∧ Below w.heap.size w w' := Bare.bare_any m w hm
set_option maxHeartbeats 6400000 in
theorem right_any (m : M) (w : World) (hm : m.In w) (lb : ∀ x ∈ m.sl, x.1.size ≤ 1099511627776) (ht : Tab w) : Calls Tryz.prog 28 #[.agg m.cells] w fun e w' => e = .returned (.bool (okF m)) ∧ Below w.heap.size w w' := by
  have HF := Lib.hid (Fs.new w m hm)
  have HM := Lib.hid (ht.below (balloc (Below.refl _ w) (.cells m.cells 29)))
  have HK := Lib.hid (show okF m = (bare m && (okS m.sl && (nums m && kindB m))) from rfl)
  have P1 := Lib.hid (fun V (h : m.In V) => mbare_any m V h)
  have P2 := Lib.hid (fun V (h : m.In V) => S2.right_any m.sa m.sc m.sl V h.s h.sl lb)
  have P3 := Lib.hid (fun V => nums_any m V)
  have P4 := Lib.hid (fun V (h : Tab V) => kind_any m V h)
  clear lb hm ht
  generalize okF m = y at *
  generalize bare m = x1 at *
  generalize okS m.sl = x2 at *
  generalize nums m = x3 at *
  generalize kindB m = x4 at *
  go_enter Tryz.func28, Tryz.ntmps28
  go_upto_region 1 with fail
  generalize w.alloc (.cells m.cells 29) = V at *
  have c24 := HF.out.m.cs.c24
  cases x1
  · go_wp2_with (first | (refine st_yes (v := .agg (M.cells m)) (by rfl) rfl (run_loadM (x := .tmp 1) rfl rfl HF.out.m) ?_))
    refine (P1.out _ HF.out.i).mono ?_
    rintro r w' ⟨rfl, hb⟩
    have HM := Lib.hid (HM.out.below hb)
    have HF := Lib.hid (HF.out.call hb)
    clear hb c24
    have c24 := HF.out.m.cs.c24
    go_wp2_with (first | (refine st_yes (v := .agg (M.cells m)) (by rfl) rfl (run_loadM (x := .tmp 1) rfl rfl HF.out.m) ?_))
    go_ret
    exact ⟨bool_eq HK.out.symm, HF.out.bel⟩
  cases x2
  · go_wp2_with (first | (refine st_yes (v := .agg (M.cells m)) (by rfl) rfl (run_loadM (x := .tmp 1) rfl rfl HF.out.m) ?_))
    refine (P1.out _ HF.out.i).mono ?_
    rintro r w' ⟨rfl, hb⟩
    have HM := Lib.hid (HM.out.below hb)
    have HF := Lib.hid (HF.out.call hb)
    clear hb c24
    have c24 := HF.out.m.cs.c24
    go_wp2_with (first | (refine st_yes (v := .agg (M.cells m)) (by rfl) rfl (run_loadM (x := .tmp 1) rfl rfl HF.out.m) ?_))
    refine (P2.out _ HF.out.i).mono ?_
    rintro r w' ⟨rfl, hb⟩
    have HM := Lib.hid (HM.out.below hb)
    have HF := Lib.hid (HF.out.call hb)
    clear hb c24
    have c24 := HF.out.m.cs.c24
    go_wp2_with (first | (refine st_yes (v := .agg (M.cells m)) (by rfl) rfl (run_loadM (x := .tmp 1) rfl rfl HF.out.m) ?_))
    go_ret
    exact ⟨bool_eq HK.out.symm, HF.out.bel⟩
  cases x3
  · go_wp2_with (first | (refine st_yes (v := .agg (M.cells m)) (by rfl) rfl (run_loadM (x := .tmp 1) rfl rfl HF.out.m) ?_))
    refine (P1.out _ HF.out.i).mono ?_
    rintro r w' ⟨rfl, hb⟩
    have HM := Lib.hid (HM.out.below hb)
    have HF := Lib.hid (HF.out.call hb)
    clear hb c24
    have c24 := HF.out.m.cs.c24
    go_wp2_with (first | (refine st_yes (v := .agg (M.cells m)) (by rfl) rfl (run_loadM (x := .tmp 1) rfl rfl HF.out.m) ?_))
    refine (P2.out _ HF.out.i).mono ?_
    rintro r w' ⟨rfl, hb⟩
    have HM := Lib.hid (HM.out.below hb)
    have HF := Lib.hid (HF.out.call hb)
    clear hb c24
    have c24 := HF.out.m.cs.c24
    go_wp2_with (first | (refine st_yes (v := .agg (M.cells m)) (by rfl) rfl (run_loadM (x := .tmp 1) rfl rfl HF.out.m) ?_))
    refine (P3.out _).mono ?_
    rintro r w' ⟨rfl, hb⟩
    have HM := Lib.hid (HM.out.below hb)
    have HF := Lib.hid (HF.out.call hb)
    clear hb c24
    have c24 := HF.out.m.cs.c24
    go_wp2_with (first | (refine st_yes (v := .agg (M.cells m)) (by rfl) rfl (run_loadM (x := .tmp 1) rfl rfl HF.out.m) ?_))
    go_ret
    exact ⟨bool_eq HK.out.symm, HF.out.bel⟩
  go_wp2_with (first | (refine st_yes (v := .agg (M.cells m)) (by rfl) rfl (run_loadM (x := .tmp 1) rfl rfl HF.out.m) ?_))
  refine (P1.out _ HF.out.i).mono ?_
  rintro r w' ⟨rfl, hb⟩
  have HM := Lib.hid (HM.out.below hb)
  have HF := Lib.hid (HF.out.call hb)
  clear hb c24
  have c24 := HF.out.m.cs.c24
  go_wp2_with (first | (refine st_yes (v := .agg (M.cells m)) (by rfl) rfl (run_loadM (x := .tmp 1) rfl rfl HF.out.m) ?_))
  refine (P2.out _ HF.out.i).mono ?_
  rintro r w' ⟨rfl, hb⟩
  have HM := Lib.hid (HM.out.below hb)
  have HF := Lib.hid (HF.out.call hb)
  clear hb c24
  have c24 := HF.out.m.cs.c24
  go_wp2_with (first | (refine st_yes (v := .agg (M.cells m)) (by rfl) rfl (run_loadM (x := .tmp 1) rfl rfl HF.out.m) ?_))
  refine (P3.out _).mono ?_
  rintro r w' ⟨rfl, hb⟩
  have HM := Lib.hid (HM.out.below hb)
  have HF := Lib.hid (HF.out.call hb)
  clear hb c24
  have c24 := HF.out.m.cs.c24
  go_wp2_with (first | (refine st_yes (v := .agg (M.cells m)) (by rfl) rfl (run_loadM (x := .tmp 1) rfl rfl HF.out.m) ?_))
  refine (P4.out _ HM.out).mono ?_
  rintro r w' ⟨rfl, hb⟩
  have HM := Lib.hid (HM.out.below hb)
  have HF := Lib.hid (HF.out.call hb)
  clear hb c24
  have c24 := HF.out.m.cs.c24
  go_wp2
  go_ret
  exact ⟨bool_eq HK.out.symm, HF.out.bel⟩
end Go.Proofs.YtfegdblaohhdoaaGreatDoor.G2
namespace Go.Proofs.YtfegdblaohhdoaaGreatDoor.Ow
open Go.ChangeShapes Go.WideShapes Go.ChangeAt Go.RowKit
open Go.Proofs.YtfegdblaohhdoaaGreatDoor.Ms
open Go.Proofs.YtfegdblaohhdoaaGreatDoor.Box
open Go.Proofs.YtfegdblaohhdoaaGreatDoor.Oct (cellsL info5 conv_row)
open Go.Proofs.YtfegdblaohhdoaaGreatDoor.Bk (Bk)
set_option linter.unusedVariables false
set_option maxRecDepth 100000
set_option maxRecDepth 100000

theorem ob_ne {w : World} {B : Nat} {e T : TypeId} {size : Nat} {v : Value} {n : Nat} {xs : List Value} {b : Nat} {cs : Array Value} (hown : w.ownsRow B e size v n xs) (hb : Bk T w b cs) (hTe : T ≠ e) : v.ownBlock ≠ some b := by
  rcases hown.2 with ⟨rfl, _⟩ | ⟨g, cap, cur, rfl, _, hg, _⟩
  · simp [Value.ownBlock]
  · intro h
    simp only [Value.ownBlock, Option.some.injEq] at h
    subst h
    unfold Bk at hb
    rw [hg] at hb
    simp at hb
    exact hTe hb.2.symm
theorem own_set {w : World} {B b i : Nat} {e T : TypeId} {size : Nat} {v u : Value} {n : Nat} {xs : List Value} {cs : Array Value} (hown : w.ownsRow B e size v n xs) (hb : Bk T w b cs) (hTe : T ≠ e) : (w.setCell ⟨b, i, none⟩ u).ownsRow B e size v n xs :=
  hown.kept (row := some b) ⟨rfl, rfl, rfl, by simp [World.setCell], fun k _ hk => Below.heap_setCell _ _ _ _ (fun e => hk (by simp [e]))⟩ (Or.inr (ob_ne hown hb hTe))
theorem own_form {w : World} {B : Nat} {e : TypeId} {size : Nat} {v : Value} {n : Nat} {xs : List Value} (hown : w.ownsRow B e size v n xs) : ∃ a c, v = .slice a n c := by
  rcases hown.2 with ⟨hv, h0⟩ | ⟨g, cap, cur, hv, _⟩
  · exact ⟨none, 0, by rw [hv, h0]⟩
  · exact ⟨_, _, hv⟩
theorem cellsL_append (a b : List UInt8) : cellsL (a ++ b) = cellsL a ++ cellsL b := by simp [cellsL]
theorem conv_own {B : Nat} (w : World) (l : List UInt8) {ao : Option Addr} {cap : Nat} (h : w.ownsRow B 5 1 (.slice ao l.length cap) l.length (cellsL l)) :
    (convert 71 9 (.slice ao l.length cap)).run Tryz.prog w = .ok (.string ⟨l.toArray⟩) w := by
  rcases h.2 with ⟨hv, h0⟩ | ⟨g, c, cur, hv, _⟩
  · have : l = [] := List.length_eq_zero_iff.1 h0
    subst this
    show (convert 71 9 (.slice ao 0 cap)).run Tryz.prog w = _
    obtain ⟨rfl, _, rfl⟩ : ao = none ∧ True ∧ cap = 0 := by simpa using hv
    rw [run_convert_bytes_string w 71 9 5 none 0 0 Tryz.underlying71 Tryz.underlying5 Tryz.underlying9]; rfl
  · simp at hv
    obtain ⟨rfl, rfl⟩ := hv
    exact conv_row w g cap B l l.length rfl h
/-- The call's own row of the bytes bs. -/
def Own (B : Nat) (w : World) (v : Value) (bs : List UInt8) : Prop := w.ownsRow B 5 1 v bs.length (cellsL bs)
theorem Own.nil (B : Nat) (w : World) : Own B w (.slice none 0 0) [] := World.ownsRow_nil w B _ 1
theorem Own.below {B : Nat} {w w' : World} {v : Value} {bs : List UInt8} (h : Own B w v bs) (hb : Below w.heap.size w w') : Own B w' v bs := by
  refine ⟨h.1, ?_⟩
  rcases h.2 with h | ⟨g, cap, cur, a, b, c, d⟩
  · exact .inl h
  · exact .inr ⟨g, cap, cur, a, b, (hb.block g (Array.getElem?_eq_some_iff.1 c).1).trans c, d⟩
theorem Own.conv {B : Nat} {w : World} {v : Value} {bs : List UInt8} (h : Own B w v bs) : (convert 71 9 v).run Tryz.prog w = .ok (.string ⟨bs.toArray⟩) w := by
  obtain ⟨ao, cap, rfl⟩ := own_form h
  exact conv_own w bs h
/-- append(v, t...) -/
theorem app_str {ops : Array Oper} {rest : List Oper} {o : Oper} {a : Act} {w : World} {Q : Exit → Act → World → Prop} (hgd : o.guard = none) (s x : Operand)
    (ho : o.op = .call { callee := .builtin .append, args := #[s, x], argTypes := #[71, 9] }) (B : Nat) (v : Value) (bs : List UInt8) (t : ByteArray)
    (hs : a.eval s = v) (hown : Own B w v bs) (hx : a.eval x = .string t) (hl : bs.length + t.size ≤ 1000000) (hB : B ≤ w.heap.size)
    (h : ∀ v' w', Own B w' v' (bs ++ t.data.toList) → w.grownBy w' v.ownBlock → Below B w w' → wpList Tryz.prog ops Q rest (a.put o.dst v') w') : wpList Tryz.prog ops Q (o :: rest) a w := by
  obtain ⟨i0, hi, hz0, hz1, hz2⟩ := info_parts info5
  refine Lib.wpList_append_own_string w hgd s x 71 9 ho B 5 i0 Tryz.underlying71 Tryz.underlying9 hi hz0 hz1 hz2 v bs.length (cellsL bs) hs hown t hx (by unfold maxLen; omega) (by omega) hB ?_
  intro v' w' h2 h3 _
  refine h v' w' ?_ h3 ((Below.refl B w).grown h3 hB (fun k hk => (World.ownsRow.lt hown k hk).1))
  unfold Own
  rw [cellsL_append, List.length_append]
  exact h2

/-- Structs in other blocks stand still. -/
def Oth (b : Nat) (w w' : World) : Prop := ∀ (T : TypeId) k cs, T ≠ 5 → k ≠ b → Bk T w k cs → Bk T w' k cs
theorem Oth.refl (b : Nat) (w : World) : Oth b w w := fun _ _ _ _ _ h => h
theorem Oth.trans {b : Nat} {w w' w'' : World} (h : Oth b w w') (h' : Oth b w' w'') : Oth b w w'' := fun T k cs h1 h2 h3 => h' T k cs h1 h2 (h T k cs h1 h2 h3)
theorem Oth.below {b : Nat} {w w' : World} (h : Below w.heap.size w w') : Oth b w w' := fun _ _ _ _ _ h3 => h3.below h
theorem Oth.set {b i : Nat} {w : World} {v : Value} : Oth b w (w.setCell ⟨b, i, none⟩ v) := fun _ _ _ _ h2 h3 => h3.off (p := ⟨b, i, none⟩) h2 v
theorem Oth.grown {B b : Nat} {w w' : World} {v : Value} {bs : List UInt8} (hown : Own B w v bs) (hg : w.grownBy w' v.ownBlock) : Oth b w w' := fun _ _ _ h1 _ h3 => (hg.block _ h3.lt (fun e => ob_ne hown h3 h1 e.symm)).trans h3
theorem neM : (29 : TypeId) ≠ 5 := by decide
theorem Oth.bx {b g : Nat} {w w' : World} {m : M} (h : Oth b w w') (hn : g ≠ b) (hb : Bx w g m) : Bx w' g m := h 29 g m.cells neM hn hb
end Go.Proofs.YtfegdblaohhdoaaGreatDoor.Ow
