/-
  A message's bytes, and its plain ones: the document's Put and Plain. Conditions: what is known may be; the message's lists stand in the world, and aren't long.
-/
import Derived.Test.YtjhfpobjbijcpaaGreatDoorE17
import Derived.Test.YtjhfpobjbijcpaaGreatDoorE40
import Derived.Test.YtjhfpobjbijcpaaGreatDoorE41
namespace Go.Proofs.YtjhfpobjbijcpaaGreatDoor.L9
open Go.ChangeShapes Go.WideShapes Go.ChangeAt Go.RowKit
open Go.Proofs.YtjhfpobjbijcpaaGreatDoor.Ms
open Go.Proofs.YtjhfpobjbijcpaaGreatDoor.Box
open Go.Proofs.YtjhfpobjbijcpaaGreatDoor.An
open Go.Proofs.YtjhfpobjbijcpaaGreatDoor.Nu (text_eq ext_list)
open Go.Proofs.YtjhfpobjbijcpaaGreatDoor.J1
open Go.Proofs.YtjhfpobjbijcpaaGreatDoor.J2 (nil_eq nil_em)
open Go.Proofs.YtjhfpobjbijcpaaGreatDoor.K1
open Go.Proofs.YtjhfpobjbijcpaaGreatDoor.Kb
open Go.Proofs.YtjhfpobjbijcpaaGreatDoor.Pre (leadN)
open Go.Proofs.YtjhfpobjbijcpaaGreatDoor.L1
open Go.Proofs.YtjhfpobjbijcpaaGreatDoor.L2
open Go.Proofs.YtjhfpobjbijcpaaGreatDoor.L8
open Go.Proofs.YtjhfpobjbijcpaaGreatDoor.Cx
open Go.Proofs.YtjhfpobjbijcpaaGreatDoor.F1 (enc1 enc1_len encT encT_append encT_cons encT_nil)
open Go.Proofs.YtjhfpobjbijcpaaGreatDoor.F6 (cat_is)
open Go.Proofs.YtjhfpobjbijcpaaGreatDoor.F2 (sl_l)
open Go.Proofs.YtjhfpobjbijcpaaGreatDoor.Bk (Bk alloc_size run_loadK loadVarK)
open Go.Proofs.YtjhfpobjbijcpaaGreatDoor.Hs
open Go.Proofs.YtjhfpobjbijcpaaGreatDoor.Hy
open Go.Proofs.YtjhfpobjbijcpaaGreatDoor.Or (st_yes)
set_option linter.unusedVariables false
set_option maxRecDepth 100000
set_option maxRecDepth 100000
theorem pf_size {c : Kx} (hc : okC c = true) {ae : Int} (h0 : 0 < ae) (h3 : ae ≤ 3) : (c.pf ae).size = 0 ∨ ((c.pf ae).size ≤ 16 ∧ baseN ae ≤ (c.pf ae).size) := by
  rcases ((okc_iff c).1 hc).pf (by omega) h3 with h | ⟨h, _⟩
  · exact .inl h
  · have := adr_len h h0 h3
    refine .inr ⟨by rw [this]; split <;> omega, ?_⟩
    rw [this]; unfold baseN; split <;> split <;> omega
/-- The TLVs ahead of an Update aren't long. -/
theorem way_size {c : Kx} {m : M} (h : okU m = true) (hb : badC c m = false) : (encT (wayE c m)).length ≤ 100 := by
  have o := (oku_iff m).1 h
  unfold wayE
  by_cases hf : m.metric = 65535
  · rw [if_pos hf]; exact Nat.zero_le _
  rw [if_neg hf, encT_append, List.length_append]
  obtain ⟨_, w2, _⟩ := way_near o.way hf
  have h1 : (encT (if m.id = c.id then [] else [(idD m.id, 6)])).length ≤ 20 := by
    split
    · exact Nat.zero_le _
    · rw [len_one, enc1_len]
      have := (id_ok w2).2
      split <;> simp_all <;> omega
  have h2 : (encT (if m.next = c.nx (fam m.ae) then [] else [(hopD m.next, 7)])).length ≤ 30 := by
    split
    · exact Nat.zero_le _
    · rename_i hn
      rw [len_one, enc1_len]
      rcases near_next h hf hb with e | ⟨e, _⟩
      · exact absurd e hn
      · have h18 := (L1.hop_size e).2
        have e18 : (hopD m.next, (7 : Int)).1.size ≤ 18 := h18
        split <;> omega
  omega
set_option maxHeartbeats 51200000 in
set_option maxRecDepth 100000 in
theorem rput_any (c : Kx) (m : M) (w : World) (hm : m.In w) (ln : m.sl.length ≤ 2000) (lb : ∀ x ∈ m.sl, x.1.size ≤ 1099511627776) (hp : m.pfx.size ≤ maxLen) (hc : okC c = true) : Calls Tryz.prog 18 #[.agg c.cells, .agg m.cells] w fun e w' => e = .returned (.tuple #[.string (putL c m).1, .agg (putL c m).2.1.cells, .int .i64 (putL c m).2.2]) ∧ Below w.heap.size w w' := by
  have P1 := Lib.hid (fun V (y : m.In V) => rright_any m V y lb hp)
  cases ho : okL m
  · have HY := Lib.hid (show putL c m = (⟨#[]⟩, c, 1) by unfold putL; rw [ho]; rfl)
    rw [ho] at P1
    clear ho hc lb ln hp
    go_enter Tryz.func18, Tryz.ntmps18
    go_upto_region 1 with fail
    change Code.wp _ _ _ _ (((w.alloc (.cells c.cells 44)).alloc (.cells m.cells 38)).alloc (.cells Kx.zero.cells 44))
    have D := Lib.hid ((Us.start w c m hm).call (balloc (Below.refl _ _) (.cells Kx.zero.cells 44)))
    have R0 := Lib.hid (res_new w c m)
    clear hm
    generalize ((w.alloc (.cells c.cells 44)).alloc (.cells m.cells 38)).alloc (.cells Kx.zero.cells 44) = V at *
    go_wp2_with (first | (refine wpList_loadM (b := w.heap.size + 1) (m := m) rfl _ rfl rfl D.out.m0 ?_))
    refine (P1.out _ D.out.i).mono ?_
    rintro r w1 ⟨rfl, hb⟩
    have D := Lib.hid (D.out.call hb)
    have R0 := Lib.hid (R0.out.below hb)
    clear hb P1
    generalize w1 = V at *
    go_upto_region 2 with fail
    have R0 := Lib.hid (show Bk 44 V.drew (w.heap.size + 1 + 1) Kx.zero.cells from R0.out)
    have HB := Lib.hid (show Below w.heap.size w V.drew from D.out.bel.drew)
    refine wp_region_held_drew (S := fun X => Bk 44 X w.heap.size (Kx.cells c)) (by kernel_rfl) (D.out.s0) (fun hS => ?_)
    clear D
    generalize V.drew = Z0 at *
    refine H.tk (i := 0) (v := .agg (Kx.cells c)) ?h0x1t1 hS ?_
    case h0x1t1 => exact (fun w hw => run_loadK shX (x := .tmp 2) rfl rfl hw rfl)
    try simp only [Act.put, List.setIfInBounds_toArray, List.set_cons_zero, List.set_cons_succ]
    refine H.tk (i := 1) (v := (Value.string { data := #[] })) (fun w _ => rfl) hS ?_
    try simp only [Act.put, List.setIfInBounds_toArray, List.set_cons_zero, List.set_cons_succ]
    refine H.one (i := 2) (by simp only [List.getElem?_toArray, List.getElem?_cons_succ, List.getElem?_cons_zero]; rfl) (by kernel_rfl) (by kernel_rfl) (fun K hK => ?_)
    refine wp_store_row 44 _ _ rfl (w.heap.size + 1 + 1) (Kx.cells c) rfl rfl 44 Kx.zero.cells R0.out infoX rfl (oneX _) ?_
    refine hK.out _ _ (hS.row (by omega) _) ?_
    clear hK K
    have hS := (show Bk 44 (Z0.setRow (w.heap.size + 1 + 1) (Kx.cells c)) w.heap.size (Kx.cells c) from hS.row (by omega) _)
    try simp only [Act.put]
    refine H.tk (i := 3) (v := (Value.int IntKind.i64 1)) (fun w _ => rfl) hS ?_
    try simp only [Act.put, List.setIfInBounds_toArray, List.set_cons_zero, List.set_cons_succ]
    refine wpAnyH_done (by kernel_rfl) ?_ _
    go_wp2_with fail
    exact bodyPost_ret (v := .tuple #[.string ⟨#[]⟩, .agg (Kx.cells c), .int .i64 1]) (results_mid (ty := 44) rfl _ _ (w.heap.size + 1 + 1) (.agg (Kx.cells c)) (.string ⟨#[]⟩) rfl rfl (loadVarK shX (R0.out.put (Kx.cells c)) rfl) (.int .i64 1) rfl) rfl (⟨by rw [HY.out], Box.below_setRow HB.out (by omega) _⟩)
  rw [ho] at P1
  by_cases k11 : m.kind = 11
  rotate_left
  · have PO := Lib.hid (fun V (y : m.In V) => rother_any m V y ln lb hp ho k11)
    have HY := Lib.hid (show putL c m = (⟨(enc1 (othE m)).toArray⟩, c, 0) by
      unfold putL elsL ctxL badC
      rw [ho, if_pos rfl, decide_eq_false k11, if_neg k11, if_neg k11]
      show (ByteArray.mk (encT [othE m]).toArray, c, (0 : Int)) = _
      rw [encT_cons, encT_nil, List.append_nil])
    generalize (⟨(enc1 (othE m)).toArray⟩ : ByteArray) = x at *
    have e11 : (m.kind != 11) = true := by simpa using k11
    clear ho hc lb ln hp k11
    go_enter Tryz.func18, Tryz.ntmps18
    go_upto_region 1 with fail
    change Code.wp _ _ _ _ (((w.alloc (.cells c.cells 44)).alloc (.cells m.cells 38)).alloc (.cells Kx.zero.cells 44))
    have D := Lib.hid ((Us.start w c m hm).call (balloc (Below.refl _ _) (.cells Kx.zero.cells 44)))
    have R0 := Lib.hid (res_new w c m)
    clear hm
    generalize ((w.alloc (.cells c.cells 44)).alloc (.cells m.cells 38)).alloc (.cells Kx.zero.cells 44) = V at *
    go_wp2_with (first | (refine wpList_loadM (b := w.heap.size + 1) (m := m) rfl _ rfl rfl D.out.m0 ?_))
    refine (P1.out _ D.out.i).mono ?_
    rintro r w1 ⟨rfl, hb⟩
    have D := Lib.hid (D.out.call hb)
    have R0 := Lib.hid (R0.out.below hb)
    clear hb P1
    generalize w1 = V at *
    have c0 := D.out.m0.cs.c0
    go_upto_region 4 with fail
    clear c0 e11
    refine wp_region_held_drew (S := fun W => Us w (c) m W) (by kernel_rfl) D.out.drew (fun hS => ?_)
    have R0 := Lib.hid (show Bk 44 V.drew (w.heap.size + 1 + 1) Kx.zero.cells from R0.out)
    clear D
    generalize V.drew = X0 at *
    refine H.tk (i := 0) (v := .agg (M.cells m)) ?h0x1o hS ?_
    case h0x1o => exact (fun w hw => run_loadM (x := .tmp 3) rfl rfl hw.m0)
    try simp only [Act.put, List.setIfInBounds_toArray, List.set_cons_zero, List.set_cons_succ]
    refine H.tk (i := 2) (v := .agg (Kx.cells c)) ?h2x2o hS ?_
    case h2x2o => exact (fun w hw => run_loadK shX (x := .tmp 2) rfl rfl hw.s0 rfl)
    try simp only [Act.put, List.setIfInBounds_toArray, List.set_cons_zero, List.set_cons_succ]
    refine H.one (i := 1) (by simp only [List.getElem?_toArray, List.getElem?_cons_succ, List.getElem?_cons_zero]; rfl) (by kernel_rfl) (by kernel_rfl) (fun K hK => ?_)
    go_simp
    refine (PO.out _ hS.i).mono ?_
    rintro e X1 ⟨rfl, hb⟩
    have hS' := hS.call hb
    have R0 := Lib.hid (R0.out.below hb)
    refine hK.out _ _ hS' ?_
    clear hK K hb hS
    have hS := hS'
    clear hS'
    try simp only [Act.put, List.setIfInBounds_toArray, List.set_cons_zero, List.set_cons_succ]
    refine H.tk (i := 3) (v := ?v3x3o) ?h3x3o hS ?_
    case h3x3o => (intro w hw; go_simp; first | done | (with_reducible rfl))
    try simp only [Act.put, List.setIfInBounds_toArray, List.set_cons_zero, List.set_cons_succ]
    refine H.one (i := 4) (by simp only [List.getElem?_toArray, List.getElem?_cons_succ, List.getElem?_cons_zero]; rfl) (by kernel_rfl) (by kernel_rfl) (fun K hK => ?_)
    refine wp_store_row 44 _ _ rfl (w.heap.size + 1 + 1) (Kx.cells c) rfl rfl 44 Kx.zero.cells R0.out infoX rfl (oneX _) ?_
    refine hK.out _ _ (hS.row (by omega) _) ?_
    clear hK K
    have hS := (show Us w c m (X1.setRow (w.heap.size + 1 + 1) (Kx.cells c)) from hS.row (by omega) _)
    try simp only [Act.put]
    refine H.tk (i := 5) (v := (Value.int IntKind.i64 0)) (fun w _ => rfl) hS ?_
    try simp only [Act.put, List.setIfInBounds_toArray, List.set_cons_zero, List.set_cons_succ]
    refine wpAnyH_done (by kernel_rfl) ?_ _
    go_wp2_with fail
    exact bodyPost_ret (v := .tuple #[.string x, .agg (Kx.cells c), .int .i64 0]) (results_mid (ty := 44) rfl _ _ (w.heap.size + 1 + 1) (.agg (Kx.cells c)) (.string x) rfl rfl (loadVarK shX (R0.out.put (Kx.cells c)) rfl) (.int .i64 0) rfl) rfl ⟨by rw [HY.out], hS.bel⟩
  have hu := ok_u ho k11
  have o := (oku_iff m).1 hu
  obtain ⟨a0, a1, _, _⟩ := len_range (in_cases o.pfx).1
  have P2 := Lib.hid (fun V => K2.rfam_any m.ae V)
  have nm1 := nil_eq m.next
  have nm2 := nil_em m.next
  cases hb : badC c m
  rotate_left
  · have HY := Lib.hid (show putL c m = (⟨#[]⟩, c, 9) by unfold putL; rw [ho, hb]; rfl)
    have hbb := hb
    unfold badC at hbb
    simp only [Bool.and_eq_true, Bool.not_eq_true', decide_eq_true_eq, decide_eq_false_iff_not] at hbb
    have hf : ¬ m.metric = 65535 := hbb.2.1
    have e10 : (m.metric != 65535) = true := by simpa using hf
    obtain ⟨w1, w2, _⟩ := way_near o.way hf
    obtain ⟨k, hk2, hk⟩ : ∃ k : Nat, k < 2 ∧ fam m.ae = k := by
      unfold fam
      rcases (show m.ae = 1 ∨ m.ae = 2 ∨ m.ae = 3 by omega) with e | e | e
      · exact ⟨0, by decide, by rw [e]; rfl⟩
      · exact ⟨1, by decide, by rw [e]; rfl⟩
      · exact ⟨1, by decide, by rw [e]; rfl⟩
    have nc1 := nil_eq (c.nx k)
    have nc2 := nil_em (c.nx k)
    rw [hk] at P2
    have hb2 := hbb.2.2
    rw [hk] at hb2
    rw [decide_eq_true hb2.1] at nm1 nm2
    rw [decide_eq_false hb2.2] at nc1 nc2
    clear ho hc lb ln hp hu o a0 a1 hb hbb hf hb2 w1 w2 hk
    go_enter Tryz.func18, Tryz.ntmps18
    go_upto_region 1 with fail
    change Code.wp _ _ _ _ (((w.alloc (.cells c.cells 44)).alloc (.cells m.cells 38)).alloc (.cells Kx.zero.cells 44))
    have D := Lib.hid ((Us.start w c m hm).call (balloc (Below.refl _ _) (.cells Kx.zero.cells 44)))
    have R0 := Lib.hid (res_new w c m)
    clear hm
    generalize ((w.alloc (.cells c.cells 44)).alloc (.cells m.cells 38)).alloc (.cells Kx.zero.cells 44) = V at *
    go_wp2_with (first | (refine wpList_loadM (b := w.heap.size + 1) (m := m) rfl _ rfl rfl D.out.m0 ?_))
    refine (P1.out _ D.out.i).mono ?_
    rintro r w1 ⟨rfl, hb⟩
    have D := Lib.hid (D.out.call hb)
    have R0 := Lib.hid (R0.out.below hb)
    clear hb P1
    generalize w1 = V at *
    have c0 := D.out.m0.cs.c0
    rw [k11] at c0
    go_upto_region 6 with (first | (refine wpList_loadX (b := w.heap.size) (m := c) rfl _ rfl rfl D.out.s0 ?_) | (refine wpList_storeX (b := V.heap.size) (m := Kx.zero) (m' := c) rfl _ _ rfl rfl rfl (Bk.Bk.new 44 V Kx.zero.cells) ?_))
    change Code.wp _ _ _ _ ((V.alloc (.cells Kx.zero.cells 44)).setRow V.heap.size (Kx.cells c))
    rw [World.setRow_alloc_new]
    have bel := balloc (Below.refl V.heap.size V) (.cells (Kx.cells c) 44)
    have D := Lib.hid (D.out.call bel)
    have S1 := Lib.hid (Bk.Bk.new 44 V (Kx.cells c))
    have hgz : w.heap.size + 1 + 1 < V.heap.size := R0.out.lt
    have R0 := Lib.hid (R0.out.below bel)
    clear bel c0
    generalize V.alloc (.cells (Kx.cells c) 44) = V2 at *
    generalize V.heap.size = g at *
    generalize V2 = V at *
    have c5 := D.out.m0.cs.c5
    have c9 := D.out.m0.cs.c9
    have c10 := D.out.m0.cs.c10
    have c11 := D.out.m0.cs.c11
    have n0 := nx_at D.out.s0 hk2
    go_wp2_with fail
    refine (P2.out _).mono ?_
    rintro r _ ⟨rfl, rfl⟩
    go_upto_region 10 with (first | (refine st_yes (v := .pointer (some ⟨w.heap.size, 4 + k, none⟩)) (by rfl) rfl (ex_index rfl rfl rfl (index2 w.heap.size k hk2 _)) ?_))
    clear c5 c9 c10 c11 n0 nm1 nm2 nc1 nc2 e10
    have R0 := Lib.hid (show Bk 44 V.drew (w.heap.size + 1 + 1) Kx.zero.cells from R0.out)
    have HB := Lib.hid (show Below w.heap.size w V.drew from D.out.bel.drew)
    refine wp_region_held_drew (S := fun X => Bk 44 X g (Kx.cells c)) (by kernel_rfl) (S1.out) (fun hS => ?_)
    clear D
    generalize V.drew = Z0 at *
    refine H.tk (i := 0) (v := .agg (Kx.cells c)) ?h0x1b1 hS ?_
    case h0x1b1 => exact (fun w hw => run_loadK shX (x := .tmp 7) rfl rfl hw rfl)
    try simp only [Act.put, List.setIfInBounds_toArray, List.set_cons_zero, List.set_cons_succ]
    refine H.tk (i := 1) (v := (Value.string { data := #[] })) (fun w _ => rfl) hS ?_
    try simp only [Act.put, List.setIfInBounds_toArray, List.set_cons_zero, List.set_cons_succ]
    refine H.one (i := 2) (by simp only [List.getElem?_toArray, List.getElem?_cons_succ, List.getElem?_cons_zero]; rfl) (by kernel_rfl) (by kernel_rfl) (fun K hK => ?_)
    refine wp_store_row 44 _ _ rfl (w.heap.size + 1 + 1) (Kx.cells c) rfl rfl 44 Kx.zero.cells R0.out infoX rfl (oneX _) ?_
    refine hK.out _ _ (hS.row (by omega) _) ?_
    clear hK K
    have hS := (show Bk 44 (Z0.setRow (w.heap.size + 1 + 1) (Kx.cells c)) g (Kx.cells c) from hS.row (by omega) _)
    try simp only [Act.put]
    refine H.tk (i := 3) (v := (Value.int IntKind.i64 9)) (fun w _ => rfl) hS ?_
    try simp only [Act.put, List.setIfInBounds_toArray, List.set_cons_zero, List.set_cons_succ]
    refine wpAnyH_done (by kernel_rfl) ?_ _
    go_wp2_with fail
    exact bodyPost_ret (v := .tuple #[.string ⟨#[]⟩, .agg (Kx.cells c), .int .i64 9]) (results_mid (ty := 44) rfl _ _ (w.heap.size + 1 + 1) (.agg (Kx.cells c)) (.string ⟨#[]⟩) rfl rfl (loadVarK shX (R0.out.put (Kx.cells c)) rfl) (.int .i64 9) rfl) rfl (⟨by rw [HY.out], Box.below_setRow HB.out (by omega) _⟩)
  have hws := way_size hu hb
  obtain ⟨hom, _, _⟩ := om_le (c := c) hu
  have hcs := cut_size o.pfx
  have hct := (count_le (in_cases o.pfx).1).1
  have hy : putL c m = (⟨(encT (wayE c m) ++ enc1 (updD m (omN c m), 8)).toArray⟩, knowP (wayC c m) m, 0) := by
    unfold putL elsL ctxL
    rw [ho, hb, if_pos rfl, if_neg (by decide), if_pos k11, if_pos k11, encT_append, encT_cons, encT_nil, List.append_nil]
  have PU := Lib.hid (fun V (y : m.In V) => rupdate_any m (omN c m) V y ln lb hu hom)
  have hzu := (upd_size hu hom).2
  have hzx : (⟨(enc1 (updD m (omN c m), 8)).toArray⟩ : ByteArray).size ≤ 300 := by
    rw [mk_size, enc1_len, if_neg (show ¬ (8 : Int) = 0 by decide)]
    show 2 + (updD m (omN c m)).size ≤ 300
    omega
  go_enter Tryz.func18, Tryz.ntmps18
  go_upto_region 1 with fail
  change Code.wp _ _ _ _ (((w.alloc (.cells c.cells 44)).alloc (.cells m.cells 38)).alloc (.cells Kx.zero.cells 44))
  have D := Lib.hid ((Us.start w c m hm).call (balloc (Below.refl _ _) (.cells Kx.zero.cells 44)))
  have R0 := Lib.hid (res_new w c m)
  clear hm
  generalize ((w.alloc (.cells c.cells 44)).alloc (.cells m.cells 38)).alloc (.cells Kx.zero.cells 44) = V at *
  go_wp2_with (first | (refine wpList_loadM (b := w.heap.size + 1) (m := m) rfl _ rfl rfl D.out.m0 ?_))
  refine (P1.out _ D.out.i).mono ?_
  rintro r w1 ⟨rfl, hb⟩
  have D := Lib.hid (D.out.call hb)
  have R0 := Lib.hid (R0.out.below hb)
  clear hb P1
  generalize w1 = V at *
  have c0 := D.out.m0.cs.c0
  rw [k11] at c0
  go_upto_region 6 with (first | (refine wpList_loadX (b := w.heap.size) (m := c) rfl _ rfl rfl D.out.s0 ?_) | (refine wpList_storeX (b := V.heap.size) (m := Kx.zero) (m' := c) rfl _ _ rfl rfl rfl (Bk.Bk.new 44 V Kx.zero.cells) ?_))
  change Code.wp _ _ _ _ ((V.alloc (.cells Kx.zero.cells 44)).setRow V.heap.size (Kx.cells c))
  rw [World.setRow_alloc_new]
  have bel := balloc (Below.refl V.heap.size V) (.cells (Kx.cells c) 44)
  have D := Lib.hid (D.out.call bel)
  have S1 := Lib.hid (Bk.Bk.new 44 V (Kx.cells c))
  have hgz : w.heap.size + 1 + 1 < V.heap.size := R0.out.lt
  have R0 := Lib.hid (R0.out.below bel)
  clear bel c0
  generalize V.alloc (.cells (Kx.cells c) 44) = V2 at *
  generalize V.heap.size = g at *
  generalize V2 = V at *
  have c5 := D.out.m0.cs.c5
  have c9 := D.out.m0.cs.c9
  have c10 := D.out.m0.cs.c10
  have c11 := D.out.m0.cs.c11
  go_upto_if 24 with fail
  clear c5 c9 c10 c11 S1
  go_cut [8] (fun m8 wx => ∃ ob : ByteArray, m8 = .string ob ∧ ob.data.toList = encT (wayE c m) ∧ Us w (wayC c m) m wx ∧ Bk 44 wx (w.heap.size + 1 + 1) Kx.zero.cells)
  case first =>
    have c5 := D.out.m0.cs.c5
    have c9 := D.out.m0.cs.c9
    have c11 := D.out.m0.cs.c11
    by_cases hf : m.metric = 65535
    · have e10 : (m.metric != 65535) = false := by simpa using hf
      rw [e10]
      have hwe : wayE c m = [] ∧ wayC c m = c := by unfold wayE wayC; rw [if_pos hf, if_pos hf]; exact ⟨rfl, rfl⟩
      clear c5 c9 c11
      go_wp2_with fail
      go_meet
      exact ⟨⟨#[]⟩, rfl, by rw [hwe.1]; rfl, by rw [hwe.2]; exact D.out, R0.out⟩
    have e10 : (m.metric != 65535) = true := by simpa using hf
    rw [e10]
    obtain ⟨w1, w2, _⟩ := way_near o.way hf
    obtain ⟨k, hk2, hk⟩ : ∃ k : Nat, k < 2 ∧ fam m.ae = k := by
      unfold fam
      rcases (show m.ae = 1 ∨ m.ae = 2 ∨ m.ae = 3 by omega) with e | e | e
      · exact ⟨0, by decide, by rw [e]; rfl⟩
      · exact ⟨1, by decide, by rw [e]; rfl⟩
      · exact ⟨1, by decide, by rw [e]; rfl⟩
    have nc1 := nil_eq (c.nx k)
    have nc2 := nil_em (c.nx k)
    rw [hk] at P2
    have P3 := Lib.hid (fun V => rid_any m.id V w2)
    have hnn := near_next hu hf hb
    have qi := str_beq m.id c.id
    have qn := str_beq m.next (c.nx k)
    have hwe : wayE c m = (if m.id = c.id then [] else [(idD m.id, 6)]) ++ (if m.next = c.nx k then [] else [(hopD m.next, 7)]) := by unfold wayE; rw [if_neg hf, hk]
    have hwc : wayC c m = ({ c with id := m.id } : Kx).setN k m.next := by unfold wayC; rw [if_neg hf, hk]
    have hss : m.next = c.nx k → ({ c with id := m.id } : Kx).setN k m.next = { c with id := m.id } := fun e => by rw [← hk]; rw [← hk] at e; exact set_same e
    have hbo : m.next.size = 0 → (c.nx k).size = 0 := fun e => by
      unfold badC at hb
      rw [hk, decide_eq_true o.kind, decide_eq_false hf, decide_eq_true e] at hb
      simpa using hb
    rw [hk] at hnn
    have z1 : (⟨(enc1 (idD m.id, 6)).toArray⟩ : ByteArray).size ≤ 100 := by
      rw [mk_size, enc1_len, if_neg (show ¬ (6 : Int) = 0 by decide)]
      have := (id_ok w2).2
      show 2 + (idD m.id).size ≤ 100
      omega
    clear o a0 a1 hc hb hf w1 w2 hk ho hu hws hom hcs hct hy PU hzu hzx lb ln hp e10
    by_cases hz : m.next.size = 0
    · have hn : m.next = c.nx k := by rw [empty_of hz, empty_of (hbo hz)]
      by_cases hi : m.id = c.id
      · rw [decide_eq_true hz] at nm1 nm2
        rw [decide_eq_true (hbo hz)] at nc1 nc2
        rw [decide_eq_true hi] at qi
        rw [decide_eq_true hn] at qn
        rw [if_pos hi, if_pos hn] at hwe
        rw [hss hn] at hwc
        rw [show ({ c with id := m.id } : Kx) = c by rw [hi]] at hwc
        have HE := Lib.hid (show encT (wayE c m) = [] by rw [hwe]; simp [encT])
        have HWC := Lib.hid hwc
        clear hnn hss hbo hz hi hn hwe hwc z1
        have n0 := nx_at D.out.s0 hk2
        have i0 := D.out.s0.cell 6 (.string c.id) rfl
        go_wp2_with fail
        refine (P2.out _).mono ?_
        rintro r _ ⟨rfl, rfl⟩
        go_upto_region 11 with (first | (refine st_yes (v := .pointer (some ⟨w.heap.size, 4 + k, none⟩)) (by rfl) rfl (ex_index rfl rfl rfl (index2 w.heap.size k hk2 _)) ?_))
        clear nm1 nm2 nc1 nc2 c5
        go_upto_region 14 with fail
        clear c9 c11 n0 i0 qi
        have R0 := Lib.hid (show Bk 44 V.drew (w.heap.size + 1 + 1) Kx.zero.cells from R0.out)
        refine wp_region_held_drew (S := fun W => Us w (c) m W) (by kernel_rfl) D.out.drew (fun hS => ?_)
        clear D
        generalize V.drew = V at *
        refine H.tk (i := 0) (v := ?v0x1ar) ?h0x1ar hS ?_
        case h0x1ar => (intro w hw; go_simp; first | done | (with_reducible rfl))
        try simp only [Act.put, List.setIfInBounds_toArray, List.set_cons_zero, List.set_cons_succ]
        refine H.tk (i := 1) (v := ?v1x2ar) ?h1x2ar hS ?_
        case h1x2ar => (intro w hw; have c := (hw.m0).cs.c9; go_simp; first | done | (with_reducible rfl))
        try simp only [Act.put, List.setIfInBounds_toArray, List.set_cons_zero, List.set_cons_succ]
        refine H.tk (i := 2) (v := ?v2x3ar) ?h2x3ar hS ?_
        case h2x3ar => (intro w hw; go_simp; first | done | (with_reducible rfl))
        try simp only [Act.put, List.setIfInBounds_toArray, List.set_cons_zero, List.set_cons_succ]
        refine H.tk (i := 3) (v := ?v3x4ar) ?h3x4ar hS ?_
        case h3x4ar => (intro w hw; go_simp; first | done | (with_reducible rfl))
        try simp only [Act.put, List.setIfInBounds_toArray, List.set_cons_zero, List.set_cons_succ]
        refine H.tk (i := 4) (v := .pointer (some ⟨w.heap.size, 4 + k, none⟩)) ?h4x5ar hS ?_
        case h4x5ar => exact (fun w1 hw => ex_index (vx := .pointer (some ⟨w.heap.size, 4, none⟩)) (vy := .int .i64 (k : Int)) rfl rfl rfl (index2 _ _ hk2 _))
        try simp only [Act.put, List.setIfInBounds_toArray, List.set_cons_zero, List.set_cons_succ]
        refine H.tk (i := 5) (v := ?v5x6ar) ?h5x6ar hS ?_
        case h5x6ar => (intro w hw; have c : _ = some (Value.string (c.nx k)) := nx_at hw.s0 hk2; go_simp; first | done | (with_reducible rfl))
        try simp only [Act.put, List.setIfInBounds_toArray, List.set_cons_zero, List.set_cons_succ]
        refine H.tk (i := 6) (v := ?v6x7ar) ?h6x7ar hS ?_
        case h6x7ar => (intro w hw; go_simp; first | done | (with_reducible rfl))
        try simp only [Act.put, List.setIfInBounds_toArray, List.set_cons_zero, List.set_cons_succ]
        refine wpAnyH_done (by kernel_rfl) ?_ _
        go_wp2_with fail
        go_meet
        exact ⟨⟨#[]⟩, rfl, by rw [HE.out] <;> rfl, by rw [HWC.out]; exact hS, R0.out⟩
      rw [decide_eq_true hz] at nm1 nm2
      rw [decide_eq_true (hbo hz)] at nc1 nc2
      rw [decide_eq_false hi] at qi
      rw [decide_eq_true hn] at qn
      rw [if_neg hi, if_pos hn] at hwe
      rw [hss hn] at hwc
      have HE := Lib.hid (show encT (wayE c m) = enc1 (idD m.id, 6) by rw [hwe]; simp [encT])
      have HWC := Lib.hid hwc
      have hx1 : (⟨(enc1 (idD m.id, 6)).toArray⟩ : ByteArray).data.toList = enc1 (idD m.id, 6) := rfl
      generalize (⟨(enc1 (idD m.id, 6)).toArray⟩ : ByteArray) = x1 at *
      have HX1 := Lib.hid hx1
      clear hx1
      clear hnn hss hbo hz hi hn hwe hwc z1
      have n0 := nx_at D.out.s0 hk2
      have i0 := D.out.s0.cell 6 (.string c.id) rfl
      go_wp2_with fail
      refine (P2.out _).mono ?_
      rintro r _ ⟨rfl, rfl⟩
      go_upto_region 11 with (first | (refine st_yes (v := .pointer (some ⟨w.heap.size, 4 + k, none⟩)) (by rfl) rfl (ex_index rfl rfl rfl (index2 w.heap.size k hk2 _)) ?_))
      clear nm1 nm2 nc1 nc2 c5
      go_wp2_with fail
      refine (P3.out _).mono ?_
      rintro r w1 ⟨rfl, hb⟩
      have D := Lib.hid (D.out.call hb)
      have R0 := Lib.hid (R0.out.below hb)
      clear hb c9 c11 n0 i0 qi
      have c11 := D.out.m0.cs.c11
      have d := D.out.s0.cell 6 (.string c.id) rfl
      have fd := D.out.s0.frozen 6
      go_upto_region 14 with fail
      clear c11 d fd
      have D := Lib.hid (D.out.set (c' := { c with id := m.id }) (k := 6) (v := .string m.id) rfl)
      have R0 := Lib.hid (R0.out.off (p := ⟨w.heap.size, 6, none⟩) (by show w.heap.size + 1 + 1 ≠ w.heap.size; omega) (.string m.id))
      generalize w1.setCell ⟨w.heap.size, 6, none⟩ (.string m.id) = V at *
      have R0 := Lib.hid (show Bk 44 V.drew (w.heap.size + 1 + 1) Kx.zero.cells from R0.out)
      refine wp_region_held_drew (S := fun W => Us w ({ c with id := m.id }) m W) (by kernel_rfl) D.out.drew (fun hS => ?_)
      clear D
      generalize V.drew = V at *
      refine H.tk (i := 0) (v := ?v0x1br) ?h0x1br hS ?_
      case h0x1br => (intro w hw; go_simp; first | done | (with_reducible rfl))
      try simp only [Act.put, List.setIfInBounds_toArray, List.set_cons_zero, List.set_cons_succ]
      refine H.tk (i := 1) (v := ?v1x2br) ?h1x2br hS ?_
      case h1x2br => (intro w hw; have c := (hw.m0).cs.c9; go_simp; first | done | (with_reducible rfl))
      try simp only [Act.put, List.setIfInBounds_toArray, List.set_cons_zero, List.set_cons_succ]
      refine H.tk (i := 2) (v := ?v2x3br) ?h2x3br hS ?_
      case h2x3br => (intro w hw; go_simp; first | done | (with_reducible rfl))
      try simp only [Act.put, List.setIfInBounds_toArray, List.set_cons_zero, List.set_cons_succ]
      refine H.tk (i := 3) (v := ?v3x4br) ?h3x4br hS ?_
      case h3x4br => (intro w hw; go_simp; first | done | (with_reducible rfl))
      try simp only [Act.put, List.setIfInBounds_toArray, List.set_cons_zero, List.set_cons_succ]
      refine H.tk (i := 4) (v := .pointer (some ⟨w.heap.size, 4 + k, none⟩)) ?h4x5br hS ?_
      case h4x5br => exact (fun w1 hw => ex_index (vx := .pointer (some ⟨w.heap.size, 4, none⟩)) (vy := .int .i64 (k : Int)) rfl rfl rfl (index2 _ _ hk2 _))
      try simp only [Act.put, List.setIfInBounds_toArray, List.set_cons_zero, List.set_cons_succ]
      refine H.tk (i := 5) (v := ?v5x6br) ?h5x6br hS ?_
      case h5x6br => (intro w hw; have c : _ = some (Value.string (c.nx k)) := nx_at hw.s0 hk2; go_simp; first | done | (with_reducible rfl))
      try simp only [Act.put, List.setIfInBounds_toArray, List.set_cons_zero, List.set_cons_succ]
      refine H.tk (i := 6) (v := ?v6x7br) ?h6x7br hS ?_
      case h6x7br => (intro w hw; go_simp; first | done | (with_reducible rfl))
      try simp only [Act.put, List.setIfInBounds_toArray, List.set_cons_zero, List.set_cons_succ]
      refine wpAnyH_done (by kernel_rfl) ?_ _
      go_wp2_with fail
      go_meet
      exact ⟨x1, rfl, by rw [HE.out]; exact HX1.out, by rw [HWC.out]; exact hS, R0.out⟩
    by_cases hi : m.id = c.id
    · by_cases hn : m.next = c.nx k
      · rw [decide_eq_false hz] at nm1 nm2
        rw [decide_eq_true hi] at qi
        rw [decide_eq_true hn] at qn
        rw [if_pos hi, if_pos hn] at hwe
        rw [hss hn] at hwc
        rw [show ({ c with id := m.id } : Kx) = c by rw [hi]] at hwc
        have HE := Lib.hid (show encT (wayE c m) = [] by rw [hwe]; simp [encT])
        have HWC := Lib.hid hwc
        clear hnn hss hbo hz hi hn hwe hwc z1
        have n0 := nx_at D.out.s0 hk2
        have i0 := D.out.s0.cell 6 (.string c.id) rfl
        go_wp2_with fail
        refine (P2.out _).mono ?_
        rintro r _ ⟨rfl, rfl⟩
        go_upto_region 11 with (first | (refine st_yes (v := .pointer (some ⟨w.heap.size, 4 + k, none⟩)) (by rfl) rfl (ex_index rfl rfl rfl (index2 w.heap.size k hk2 _)) ?_))
        clear nm1 nm2 nc1 nc2 c5
        go_upto_region 14 with fail
        clear c9 c11 n0 i0 qi
        have R0 := Lib.hid (show Bk 44 V.drew (w.heap.size + 1 + 1) Kx.zero.cells from R0.out)
        refine wp_region_held_drew (S := fun W => Us w (c) m W) (by kernel_rfl) D.out.drew (fun hS => ?_)
        clear D
        generalize V.drew = V at *
        refine H.tk (i := 0) (v := ?v0x1cr) ?h0x1cr hS ?_
        case h0x1cr => (intro w hw; go_simp; first | done | (with_reducible rfl))
        try simp only [Act.put, List.setIfInBounds_toArray, List.set_cons_zero, List.set_cons_succ]
        refine H.tk (i := 1) (v := ?v1x2cr) ?h1x2cr hS ?_
        case h1x2cr => (intro w hw; have c := (hw.m0).cs.c9; go_simp; first | done | (with_reducible rfl))
        try simp only [Act.put, List.setIfInBounds_toArray, List.set_cons_zero, List.set_cons_succ]
        refine H.tk (i := 2) (v := ?v2x3cr) ?h2x3cr hS ?_
        case h2x3cr => (intro w hw; go_simp; first | done | (with_reducible rfl))
        try simp only [Act.put, List.setIfInBounds_toArray, List.set_cons_zero, List.set_cons_succ]
        refine H.tk (i := 3) (v := ?v3x4cr) ?h3x4cr hS ?_
        case h3x4cr => (intro w hw; go_simp; first | done | (with_reducible rfl))
        try simp only [Act.put, List.setIfInBounds_toArray, List.set_cons_zero, List.set_cons_succ]
        refine H.tk (i := 4) (v := .pointer (some ⟨w.heap.size, 4 + k, none⟩)) ?h4x5cr hS ?_
        case h4x5cr => exact (fun w1 hw => ex_index (vx := .pointer (some ⟨w.heap.size, 4, none⟩)) (vy := .int .i64 (k : Int)) rfl rfl rfl (index2 _ _ hk2 _))
        try simp only [Act.put, List.setIfInBounds_toArray, List.set_cons_zero, List.set_cons_succ]
        refine H.tk (i := 5) (v := ?v5x6cr) ?h5x6cr hS ?_
        case h5x6cr => (intro w hw; have c : _ = some (Value.string (c.nx k)) := nx_at hw.s0 hk2; go_simp; first | done | (with_reducible rfl))
        try simp only [Act.put, List.setIfInBounds_toArray, List.set_cons_zero, List.set_cons_succ]
        refine H.tk (i := 6) (v := ?v6x7cr) ?h6x7cr hS ?_
        case h6x7cr => (intro w hw; go_simp; first | done | (with_reducible rfl))
        try simp only [Act.put, List.setIfInBounds_toArray, List.set_cons_zero, List.set_cons_succ]
        refine wpAnyH_done (by kernel_rfl) ?_ _
        go_wp2_with fail
        go_meet
        exact ⟨⟨#[]⟩, rfl, by rw [HE.out] <;> rfl, by rw [HWC.out]; exact hS, R0.out⟩
      rw [decide_eq_false hz] at nm1 nm2
      rw [decide_eq_true hi] at qi
      rw [decide_eq_false hn] at qn
      rw [if_pos hi, if_neg hn] at hwe
      rw [show ({ c with id := m.id } : Kx) = c by rw [hi]] at hwc
      have hh : m.next.size = 4 ∨ m.next.size = 16 := by rcases hnn with e | e; exact absurd e hn; exact e.1
      have P4 := Lib.hid (fun V => rhop_any m.next V hh)
      have z2 : (⟨(enc1 (hopD m.next, 7)).toArray⟩ : ByteArray).size ≤ 100 := by
        rw [mk_size, enc1_len, if_neg (show ¬ (7 : Int) = 0 by decide)]
        have := (L1.hop_size hh).2
        show 2 + (hopD m.next).size ≤ 100
        omega
      clear hh
      have HE := Lib.hid (show encT (wayE c m) = enc1 (hopD m.next, 7) by rw [hwe]; simp [encT])
      have HWC := Lib.hid hwc
      have hx2 : (⟨(enc1 (hopD m.next, 7)).toArray⟩ : ByteArray).data.toList = enc1 (hopD m.next, 7) := rfl
      generalize (⟨(enc1 (hopD m.next, 7)).toArray⟩ : ByteArray) = x2 at *
      have HX2 := Lib.hid hx2
      clear hx2
      have cat := cat_is ⟨#[]⟩ x2 x2 (by decide) (by omega) (text_eq (by simp [ByteArray.data_append]))
      clear hnn hss hbo hz hi hn hwe hwc z1 z2
      have n0 := nx_at D.out.s0 hk2
      have i0 := D.out.s0.cell 6 (.string c.id) rfl
      go_wp2_with fail
      refine (P2.out _).mono ?_
      rintro r _ ⟨rfl, rfl⟩
      go_upto_region 11 with (first | (refine st_yes (v := .pointer (some ⟨w.heap.size, 4 + k, none⟩)) (by rfl) rfl (ex_index rfl rfl rfl (index2 w.heap.size k hk2 _)) ?_))
      clear nm1 nm2 nc1 nc2 c5
      go_upto_region 14 with fail
      clear c9 c11 n0 i0 qi
      have R0 := Lib.hid (show Bk 44 V.drew (w.heap.size + 1 + 1) Kx.zero.cells from R0.out)
      refine wp_region_held_drew (S := fun W => Us w (c) m W) (by kernel_rfl) D.out.drew (fun hS => ?_)
      clear D
      generalize V.drew = V at *
      refine H.tk (i := 0) (v := ?v0x1dr) ?h0x1dr hS ?_
      case h0x1dr => (intro w hw; go_simp; first | done | (with_reducible rfl))
      try simp only [Act.put, List.setIfInBounds_toArray, List.set_cons_zero, List.set_cons_succ]
      refine H.tk (i := 1) (v := ?v1x2dr) ?h1x2dr hS ?_
      case h1x2dr => (intro w hw; have c := (hw.m0).cs.c9; go_simp; first | done | (with_reducible rfl))
      try simp only [Act.put, List.setIfInBounds_toArray, List.set_cons_zero, List.set_cons_succ]
      refine H.tk (i := 2) (v := ?v2x3dr) ?h2x3dr hS ?_
      case h2x3dr => (intro w hw; go_simp; first | done | (with_reducible rfl))
      try simp only [Act.put, List.setIfInBounds_toArray, List.set_cons_zero, List.set_cons_succ]
      refine H.tk (i := 3) (v := ?v3x4dr) ?h3x4dr hS ?_
      case h3x4dr => (intro w hw; go_simp; first | done | (with_reducible rfl))
      try simp only [Act.put, List.setIfInBounds_toArray, List.set_cons_zero, List.set_cons_succ]
      refine H.tk (i := 4) (v := .pointer (some ⟨w.heap.size, 4 + k, none⟩)) ?h4x5dr hS ?_
      case h4x5dr => exact (fun w1 hw => ex_index (vx := .pointer (some ⟨w.heap.size, 4, none⟩)) (vy := .int .i64 (k : Int)) rfl rfl rfl (index2 _ _ hk2 _))
      try simp only [Act.put, List.setIfInBounds_toArray, List.set_cons_zero, List.set_cons_succ]
      refine H.tk (i := 5) (v := ?v5x6dr) ?h5x6dr hS ?_
      case h5x6dr => (intro w hw; have c : _ = some (Value.string (c.nx k)) := nx_at hw.s0 hk2; go_simp; first | done | (with_reducible rfl))
      try simp only [Act.put, List.setIfInBounds_toArray, List.set_cons_zero, List.set_cons_succ]
      refine H.tk (i := 6) (v := ?v6x7dr) ?h6x7dr hS ?_
      case h6x7dr => (intro w hw; go_simp; first | done | (with_reducible rfl))
      try simp only [Act.put, List.setIfInBounds_toArray, List.set_cons_zero, List.set_cons_succ]
      refine wpAnyH_done (by kernel_rfl) ?_ _
      have D := Lib.hid hS
      have c9 := hS.m0.cs.c9
      go_wp2_with fail
      clear hS
      clear c9 qn
      refine (P4.out _).mono ?_
      rintro r w2 ⟨rfl, hb⟩
      have D := Lib.hid (D.out.call hb)
      have R0 := Lib.hid (R0.out.below hb)
      clear hb
      have c9 := D.out.m0.cs.c9
      have d := nx_at D.out.s0 hk2
      have fd := D.out.s0.frozen (4 + k)
      have D2 := Lib.hid (D.out.set (c' := (c : Kx).setN k m.next) (k := 4 + k) (v := .string m.next) (setN_cs _ _ hk2))
      have R2 := Lib.hid (R0.out.off (p := ⟨w.heap.size, 4 + k, none⟩) (by show w.heap.size + 1 + 1 ≠ w.heap.size; omega) (.string m.next))
      go_wp2_with (first | (refine st_yes (v := .pointer (some ⟨w.heap.size, 4 + k, none⟩)) (by rfl) rfl (ex_index rfl rfl rfl (index2 w.heap.size k hk2 _)) ?_))
      go_meet
      exact ⟨x2, rfl, by rw [HE.out]; exact HX2.out, by rw [HWC.out]; exact D2.out, R2.out⟩
    by_cases hn : m.next = c.nx k
    · rw [decide_eq_false hz] at nm1 nm2
      rw [decide_eq_false hi] at qi
      rw [decide_eq_true hn] at qn
      rw [if_neg hi, if_pos hn] at hwe
      rw [hss hn] at hwc
      have HE := Lib.hid (show encT (wayE c m) = enc1 (idD m.id, 6) by rw [hwe]; simp [encT])
      have HWC := Lib.hid hwc
      have hx1 : (⟨(enc1 (idD m.id, 6)).toArray⟩ : ByteArray).data.toList = enc1 (idD m.id, 6) := rfl
      generalize (⟨(enc1 (idD m.id, 6)).toArray⟩ : ByteArray) = x1 at *
      have HX1 := Lib.hid hx1
      clear hx1
      clear hnn hss hbo hz hi hn hwe hwc z1
      have n0 := nx_at D.out.s0 hk2
      have i0 := D.out.s0.cell 6 (.string c.id) rfl
      go_wp2_with fail
      refine (P2.out _).mono ?_
      rintro r _ ⟨rfl, rfl⟩
      go_upto_region 11 with (first | (refine st_yes (v := .pointer (some ⟨w.heap.size, 4 + k, none⟩)) (by rfl) rfl (ex_index rfl rfl rfl (index2 w.heap.size k hk2 _)) ?_))
      clear nm1 nm2 nc1 nc2 c5
      go_wp2_with fail
      refine (P3.out _).mono ?_
      rintro r w1 ⟨rfl, hb⟩
      have D := Lib.hid (D.out.call hb)
      have R0 := Lib.hid (R0.out.below hb)
      clear hb c9 c11 n0 i0 qi
      have c11 := D.out.m0.cs.c11
      have d := D.out.s0.cell 6 (.string c.id) rfl
      have fd := D.out.s0.frozen 6
      go_upto_region 14 with fail
      clear c11 d fd
      have D := Lib.hid (D.out.set (c' := { c with id := m.id }) (k := 6) (v := .string m.id) rfl)
      have R0 := Lib.hid (R0.out.off (p := ⟨w.heap.size, 6, none⟩) (by show w.heap.size + 1 + 1 ≠ w.heap.size; omega) (.string m.id))
      generalize w1.setCell ⟨w.heap.size, 6, none⟩ (.string m.id) = V at *
      have R0 := Lib.hid (show Bk 44 V.drew (w.heap.size + 1 + 1) Kx.zero.cells from R0.out)
      refine wp_region_held_drew (S := fun W => Us w ({ c with id := m.id }) m W) (by kernel_rfl) D.out.drew (fun hS => ?_)
      clear D
      generalize V.drew = V at *
      refine H.tk (i := 0) (v := ?v0x1er) ?h0x1er hS ?_
      case h0x1er => (intro w hw; go_simp; first | done | (with_reducible rfl))
      try simp only [Act.put, List.setIfInBounds_toArray, List.set_cons_zero, List.set_cons_succ]
      refine H.tk (i := 1) (v := ?v1x2er) ?h1x2er hS ?_
      case h1x2er => (intro w hw; have c := (hw.m0).cs.c9; go_simp; first | done | (with_reducible rfl))
      try simp only [Act.put, List.setIfInBounds_toArray, List.set_cons_zero, List.set_cons_succ]
      refine H.tk (i := 2) (v := ?v2x3er) ?h2x3er hS ?_
      case h2x3er => (intro w hw; go_simp; first | done | (with_reducible rfl))
      try simp only [Act.put, List.setIfInBounds_toArray, List.set_cons_zero, List.set_cons_succ]
      refine H.tk (i := 3) (v := ?v3x4er) ?h3x4er hS ?_
      case h3x4er => (intro w hw; go_simp; first | done | (with_reducible rfl))
      try simp only [Act.put, List.setIfInBounds_toArray, List.set_cons_zero, List.set_cons_succ]
      refine H.tk (i := 4) (v := .pointer (some ⟨w.heap.size, 4 + k, none⟩)) ?h4x5er hS ?_
      case h4x5er => exact (fun w1 hw => ex_index (vx := .pointer (some ⟨w.heap.size, 4, none⟩)) (vy := .int .i64 (k : Int)) rfl rfl rfl (index2 _ _ hk2 _))
      try simp only [Act.put, List.setIfInBounds_toArray, List.set_cons_zero, List.set_cons_succ]
      refine H.tk (i := 5) (v := ?v5x6er) ?h5x6er hS ?_
      case h5x6er => (intro w hw; have c : _ = some (Value.string (c.nx k)) := nx_at hw.s0 hk2; go_simp; first | done | (with_reducible rfl))
      try simp only [Act.put, List.setIfInBounds_toArray, List.set_cons_zero, List.set_cons_succ]
      refine H.tk (i := 6) (v := ?v6x7er) ?h6x7er hS ?_
      case h6x7er => (intro w hw; go_simp; first | done | (with_reducible rfl))
      try simp only [Act.put, List.setIfInBounds_toArray, List.set_cons_zero, List.set_cons_succ]
      refine wpAnyH_done (by kernel_rfl) ?_ _
      go_wp2_with fail
      go_meet
      exact ⟨x1, rfl, by rw [HE.out]; exact HX1.out, by rw [HWC.out]; exact hS, R0.out⟩
    rw [decide_eq_false hz] at nm1 nm2
    rw [decide_eq_false hi] at qi
    rw [decide_eq_false hn] at qn
    rw [if_neg hi, if_neg hn] at hwe
    have hh : m.next.size = 4 ∨ m.next.size = 16 := by rcases hnn with e | e; exact absurd e hn; exact e.1
    have P4 := Lib.hid (fun V => rhop_any m.next V hh)
    have z2 : (⟨(enc1 (hopD m.next, 7)).toArray⟩ : ByteArray).size ≤ 100 := by
      rw [mk_size, enc1_len, if_neg (show ¬ (7 : Int) = 0 by decide)]
      have := (L1.hop_size hh).2
      show 2 + (hopD m.next).size ≤ 100
      omega
    clear hh
    have HE := Lib.hid (show encT (wayE c m) = enc1 (idD m.id, 6) ++ enc1 (hopD m.next, 7) by rw [hwe]; simp [encT])
    have HWC := Lib.hid hwc
    have hx1 : (⟨(enc1 (idD m.id, 6)).toArray⟩ : ByteArray).data.toList = enc1 (idD m.id, 6) := rfl
    have hx2 : (⟨(enc1 (hopD m.next, 7)).toArray⟩ : ByteArray).data.toList = enc1 (hopD m.next, 7) := rfl
    generalize (⟨(enc1 (idD m.id, 6)).toArray⟩ : ByteArray) = x1 at *
    have HX1 := Lib.hid hx1
    clear hx1
    generalize (⟨(enc1 (hopD m.next, 7)).toArray⟩ : ByteArray) = x2 at *
    have HX2 := Lib.hid hx2
    clear hx2
    have cat := cat_is x1 x2 _ (by omega) (by omega) rfl
    have HU := Lib.hid (show (x1 ++ x2).data.toList = x1.data.toList ++ x2.data.toList by simp [ByteArray.data_append])
    generalize x1 ++ x2 = u12 at *
    clear hnn hss hbo hz hi hn hwe hwc z1 z2
    have n0 := nx_at D.out.s0 hk2
    have i0 := D.out.s0.cell 6 (.string c.id) rfl
    go_wp2_with fail
    refine (P2.out _).mono ?_
    rintro r _ ⟨rfl, rfl⟩
    go_upto_region 11 with (first | (refine st_yes (v := .pointer (some ⟨w.heap.size, 4 + k, none⟩)) (by rfl) rfl (ex_index rfl rfl rfl (index2 w.heap.size k hk2 _)) ?_))
    clear nm1 nm2 nc1 nc2 c5
    go_wp2_with fail
    refine (P3.out _).mono ?_
    rintro r w1 ⟨rfl, hb⟩
    have D := Lib.hid (D.out.call hb)
    have R0 := Lib.hid (R0.out.below hb)
    clear hb c9 c11 n0 i0 qi
    have c11 := D.out.m0.cs.c11
    have d := D.out.s0.cell 6 (.string c.id) rfl
    have fd := D.out.s0.frozen 6
    go_upto_region 14 with fail
    clear c11 d fd
    have D := Lib.hid (D.out.set (c' := { c with id := m.id }) (k := 6) (v := .string m.id) rfl)
    have R0 := Lib.hid (R0.out.off (p := ⟨w.heap.size, 6, none⟩) (by show w.heap.size + 1 + 1 ≠ w.heap.size; omega) (.string m.id))
    generalize w1.setCell ⟨w.heap.size, 6, none⟩ (.string m.id) = V at *
    have R0 := Lib.hid (show Bk 44 V.drew (w.heap.size + 1 + 1) Kx.zero.cells from R0.out)
    refine wp_region_held_drew (S := fun W => Us w ({ c with id := m.id }) m W) (by kernel_rfl) D.out.drew (fun hS => ?_)
    clear D
    generalize V.drew = V at *
    refine H.tk (i := 0) (v := ?v0x1gr) ?h0x1gr hS ?_
    case h0x1gr => (intro w hw; go_simp; first | done | (with_reducible rfl))
    try simp only [Act.put, List.setIfInBounds_toArray, List.set_cons_zero, List.set_cons_succ]
    refine H.tk (i := 1) (v := ?v1x2gr) ?h1x2gr hS ?_
    case h1x2gr => (intro w hw; have c := (hw.m0).cs.c9; go_simp; first | done | (with_reducible rfl))
    try simp only [Act.put, List.setIfInBounds_toArray, List.set_cons_zero, List.set_cons_succ]
    refine H.tk (i := 2) (v := ?v2x3gr) ?h2x3gr hS ?_
    case h2x3gr => (intro w hw; go_simp; first | done | (with_reducible rfl))
    try simp only [Act.put, List.setIfInBounds_toArray, List.set_cons_zero, List.set_cons_succ]
    refine H.tk (i := 3) (v := ?v3x4gr) ?h3x4gr hS ?_
    case h3x4gr => (intro w hw; go_simp; first | done | (with_reducible rfl))
    try simp only [Act.put, List.setIfInBounds_toArray, List.set_cons_zero, List.set_cons_succ]
    refine H.tk (i := 4) (v := .pointer (some ⟨w.heap.size, 4 + k, none⟩)) ?h4x5gr hS ?_
    case h4x5gr => exact (fun w1 hw => ex_index (vx := .pointer (some ⟨w.heap.size, 4, none⟩)) (vy := .int .i64 (k : Int)) rfl rfl rfl (index2 _ _ hk2 _))
    try simp only [Act.put, List.setIfInBounds_toArray, List.set_cons_zero, List.set_cons_succ]
    refine H.tk (i := 5) (v := ?v5x6gr) ?h5x6gr hS ?_
    case h5x6gr => (intro w hw; have c : _ = some (Value.string (c.nx k)) := nx_at hw.s0 hk2; go_simp; first | done | (with_reducible rfl))
    try simp only [Act.put, List.setIfInBounds_toArray, List.set_cons_zero, List.set_cons_succ]
    refine H.tk (i := 6) (v := ?v6x7gr) ?h6x7gr hS ?_
    case h6x7gr => (intro w hw; go_simp; first | done | (with_reducible rfl))
    try simp only [Act.put, List.setIfInBounds_toArray, List.set_cons_zero, List.set_cons_succ]
    refine wpAnyH_done (by kernel_rfl) ?_ _
    have D := Lib.hid hS
    have c9 := hS.m0.cs.c9
    go_wp2_with fail
    clear hS
    clear c9 qn
    refine (P4.out _).mono ?_
    rintro r w2 ⟨rfl, hb⟩
    have D := Lib.hid (D.out.call hb)
    have R0 := Lib.hid (R0.out.below hb)
    clear hb
    have c9 := D.out.m0.cs.c9
    have d := nx_at D.out.s0 hk2
    have fd := D.out.s0.frozen (4 + k)
    have D2 := Lib.hid (D.out.set (c' := ({ c with id := m.id } : Kx).setN k m.next) (k := 4 + k) (v := .string m.next) (setN_cs _ _ hk2))
    have R2 := Lib.hid (R0.out.off (p := ⟨w.heap.size, 4 + k, none⟩) (by show w.heap.size + 1 + 1 ≠ w.heap.size; omega) (.string m.next))
    go_wp2_with (first | (refine st_yes (v := .pointer (some ⟨w.heap.size, 4 + k, none⟩)) (by rfl) rfl (ex_index rfl rfl rfl (index2 w.heap.size k hk2 _)) ?_))
    go_meet
    exact ⟨u12, rfl, by rw [HE.out]; rw [HU.out, HX1.out, HX2.out], by rw [HWC.out]; exact D2.out, R2.out⟩
  case rest =>
    obtain ⟨ob, rfl, hob, hD, hR⟩ := hcut
    have D := Lib.hid hD
    have R0 := Lib.hid hR
    clear hD hR P2 nm1 nm2
    generalize wc = V at *
    have hpfx : (wayC c m).pf m.ae = c.pf m.ae := way_pf c m m.ae
    have np1 := nil_eq (c.pf m.ae)
    have np2 := nil_em (c.pf m.ae)
    have hoz : ob.size ≤ 100 := by rw [← J1.size_list, hob]; exact hws
    have hpz := fun (h : 0 < m.ae) => pf_size hc h a1
    have PB := Lib.hid (fun V (y : m.In V) => J2.rbytes_any m V y o.pfx)
    have hod : omN c m = if m.ae = 0 ∨ (c.pf m.ae).size = 0 then 0 else leadN ⟨((c.pf m.ae).data.toList.drop (baseN m.ae)).toArray⟩ (cutP m.ae m.pfx m.plen) := rfl
    have cat := cat_is ob ⟨(enc1 (updD m (omN c m), 8)).toArray⟩ ⟨(encT (wayE c m) ++ enc1 (updD m (omN c m), 8)).toArray⟩ (by omega) (by omega) (text_eq (by simp [ByteArray.data_append, hob]))
    generalize (⟨(encT (wayE c m) ++ enc1 (updD m (omN c m), 8)).toArray⟩ : ByteArray) = us at *
    generalize (⟨(enc1 (updD m (omN c m), 8)).toArray⟩ : ByteArray) = x at *
    obtain ⟨kk, hkk⟩ : ∃ k : Nat, m.ae = k := ⟨m.ae.toNat, by omega⟩
    have hk4 : kk < 4 := by omega
    have HKK := Lib.hid hkk
    unfold knowP at hy
    generalize wayC c m = cw at *
    clear hws hob hoz hzx hzu hu o ho hb lb ln hp hkk
    have hcpz : (cutP m.ae m.pfx m.plen).size ≤ 16 := by omega
    clear hcs hct hom hc a1 k11
    by_cases h0 : m.ae = 0
    · have e0 : (m.ae != 0) = false := by simpa using h0
      rw [if_pos (.inl h0)] at hod
      rw [if_pos h0] at hy
      rw [hod] at PU
      have HY := Lib.hid hy
      have PU := Lib.hid (show ∀ V, m.In V → Calls Tryz.prog 44 #[.agg m.cells, .int .i64 0] V fun e w' => e = .returned (.string x) ∧ Below V.heap.size V w' from PU.out)
      clear hy hod hpz hpfx np1 np2 h0 a0 hcpz
      have c5 := D.out.m0.cs.c5
      go_upto_region 22 with fail
      clear c5 e0
      refine wp_region_held_drew (S := fun W => Us w (cw) m W) (by kernel_rfl) D.out.drew (fun hS => ?_)
      have R0 := Lib.hid (show Bk 44 V.drew (w.heap.size + 1 + 1) Kx.zero.cells from R0.out)
      clear D
      generalize V.drew = X0 at *
      refine H.tk (i := 0) (v := ?v0x1i) ?h0x1i hS ?_
      case h0x1i => (intro w hw; go_simp; first | done | (with_reducible rfl))
      try simp only [Act.put, List.setIfInBounds_toArray, List.set_cons_zero, List.set_cons_succ]
      refine H.tk (i := 1) (v := .agg (M.cells m)) ?h1x2i hS ?_
      case h1x2i => exact (fun w hw => run_loadM (x := .tmp 3) rfl rfl hw.m0)
      try simp only [Act.put, List.setIfInBounds_toArray, List.set_cons_zero, List.set_cons_succ]
      refine H.tk (i := 2) (v := ?v2x3i) ?h2x3i hS ?_
      case h2x3i => (intro w hw; go_simp; first | done | (with_reducible rfl))
      try simp only [Act.put, List.setIfInBounds_toArray, List.set_cons_zero, List.set_cons_succ]
      refine H.tk (i := 5) (v := .agg (Kx.cells cw)) ?h5x4i hS ?_
      case h5x4i => exact (fun w hw => run_loadK shX (x := .tmp 2) rfl rfl hw.s0 rfl)
      try simp only [Act.put, List.setIfInBounds_toArray, List.set_cons_zero, List.set_cons_succ]
      refine H.one (i := 3) (by simp only [List.getElem?_toArray, List.getElem?_cons_succ, List.getElem?_cons_zero]; rfl) (by kernel_rfl) (by kernel_rfl) (fun K hK => ?_)
      go_simp
      refine (PU.out _ hS.i).mono ?_
      rintro e X1 ⟨rfl, hb⟩
      have hS' := hS.call hb
      have R0 := Lib.hid (R0.out.below hb)
      refine hK.out _ _ hS' ?_
      clear hK K hb hS
      have hS := hS'
      clear hS'
      try simp only [Act.put, List.setIfInBounds_toArray, List.set_cons_zero, List.set_cons_succ]
      refine H.tk (i := 4) (v := ?v4x5i) ?h4x5i hS ?_
      case h4x5i => (intro w hw; go_simp; first | done | (with_reducible rfl))
      try simp only [Act.put, List.setIfInBounds_toArray, List.set_cons_zero, List.set_cons_succ]
      refine H.tk (i := 6) (v := ?v6x6i) ?h6x6i hS ?_
      case h6x6i => (intro w hw; go_simp; first | done | (with_reducible rfl))
      try simp only [Act.put, List.setIfInBounds_toArray, List.set_cons_zero, List.set_cons_succ]
      refine H.one (i := 7) (by simp only [List.getElem?_toArray, List.getElem?_cons_succ, List.getElem?_cons_zero]; rfl) (by kernel_rfl) (by kernel_rfl) (fun K hK => ?_)
      refine wp_store_row 44 _ _ rfl (w.heap.size + 1 + 1) (Kx.cells cw) rfl rfl 44 Kx.zero.cells R0.out infoX rfl (oneX _) ?_
      refine hK.out _ _ (hS.row (by omega) _) ?_
      clear hK K
      have hS := (show Us w cw m (X1.setRow (w.heap.size + 1 + 1) (Kx.cells cw)) from hS.row (by omega) _)
      try simp only [Act.put]
      refine H.tk (i := 8) (v := (Value.int IntKind.i64 0)) (fun w _ => rfl) hS ?_
      try simp only [Act.put, List.setIfInBounds_toArray, List.set_cons_zero, List.set_cons_succ]
      refine wpAnyH_done (by kernel_rfl) ?_ _
      go_wp2_with fail
      exact bodyPost_ret (v := .tuple #[.string us, .agg (Kx.cells cw), .int .i64 0]) (results_mid (ty := 44) rfl _ _ (w.heap.size + 1 + 1) (.agg (Kx.cells cw)) (.string us) rfl rfl (loadVarK shX (R0.out.put (Kx.cells cw)) rfl) (.int .i64 0) rfl) rfl ⟨by rw [HY.out], hS.bel⟩
    have e0 : (m.ae != 0) = true := by simpa using h0
    rw [if_neg h0] at hy
    rw [HKK.out] at e0
    have hpfk : cw.pf kk = c.pf m.ae := by rw [← hpfx, HKK.out]
    have hyk : putL c m = (us, cw.setP kk m.pfx, 0) := by rw [hy, HKK.out]
    have HY := Lib.hid hyk
    clear hy hyk
    by_cases hpe : (c.pf m.ae).size = 0
    · rw [if_pos (.inr hpe)] at hod
      rw [hod] at PU
      have PU := Lib.hid (show ∀ V, m.In V → Calls Tryz.prog 44 #[.agg m.cells, .int .i64 0] V fun e w' => e = .returned (.string x) ∧ Below V.heap.size V w' from PU.out)
      rw [decide_eq_true hpe] at np1 np2
      have c5 := D.out.m0.cs.c5
      rw [HKK.out] at c5
      have c6 := D.out.m0.cs.c6
      have d := pf_at D.out.s0 hk4
      have fd := D.out.s0.frozen kk
      rw [hpfk] at d
      clear hod hpz hpfx h0 a0 hcpz hpe hpfk
      go_upto_region 22 with (first | (refine st_yes (v := .pointer (some ⟨w.heap.size, kk, none⟩)) (by rfl) rfl (ex_index rfl rfl rfl (index4 w.heap.size kk hk4 _)) ?_))
      have D := Lib.hid (D.out.set (c' := cw.setP kk m.pfx) (k := kk) (v := .string m.pfx) (setP_cs _ _ hk4))
      have R0 := Lib.hid (R0.out.off (p := ⟨w.heap.size, kk, none⟩) (by show w.heap.size + 1 + 1 ≠ w.heap.size; omega) (.string m.pfx))
      clear c5 c6 d fd e0 np1 np2
      generalize V.setCell ⟨w.heap.size, kk, none⟩ (.string m.pfx) = V at *
      refine wp_region_held_drew (S := fun W => Us w ((cw.setP kk m.pfx)) m W) (by kernel_rfl) D.out.drew (fun hS => ?_)
      have R0 := Lib.hid (show Bk 44 V.drew (w.heap.size + 1 + 1) Kx.zero.cells from R0.out)
      clear D
      generalize V.drew = X0 at *
      refine H.tk (i := 0) (v := ?v0x1j) ?h0x1j hS ?_
      case h0x1j => (intro w hw; go_simp; first | done | (with_reducible rfl))
      try simp only [Act.put, List.setIfInBounds_toArray, List.set_cons_zero, List.set_cons_succ]
      refine H.tk (i := 1) (v := .agg (M.cells m)) ?h1x2j hS ?_
      case h1x2j => exact (fun w hw => run_loadM (x := .tmp 3) rfl rfl hw.m0)
      try simp only [Act.put, List.setIfInBounds_toArray, List.set_cons_zero, List.set_cons_succ]
      refine H.tk (i := 2) (v := ?v2x3j) ?h2x3j hS ?_
      case h2x3j => (intro w hw; go_simp; first | done | (with_reducible rfl))
      try simp only [Act.put, List.setIfInBounds_toArray, List.set_cons_zero, List.set_cons_succ]
      refine H.tk (i := 5) (v := .agg (Kx.cells (cw.setP kk m.pfx))) ?h5x4j hS ?_
      case h5x4j => exact (fun w hw => run_loadK shX (x := .tmp 2) rfl rfl hw.s0 rfl)
      try simp only [Act.put, List.setIfInBounds_toArray, List.set_cons_zero, List.set_cons_succ]
      refine H.one (i := 3) (by simp only [List.getElem?_toArray, List.getElem?_cons_succ, List.getElem?_cons_zero]; rfl) (by kernel_rfl) (by kernel_rfl) (fun K hK => ?_)
      go_simp
      refine (PU.out _ hS.i).mono ?_
      rintro e X1 ⟨rfl, hb⟩
      have hS' := hS.call hb
      have R0 := Lib.hid (R0.out.below hb)
      refine hK.out _ _ hS' ?_
      clear hK K hb hS
      have hS := hS'
      clear hS'
      try simp only [Act.put, List.setIfInBounds_toArray, List.set_cons_zero, List.set_cons_succ]
      refine H.tk (i := 4) (v := ?v4x5j) ?h4x5j hS ?_
      case h4x5j => (intro w hw; go_simp; first | done | (with_reducible rfl))
      try simp only [Act.put, List.setIfInBounds_toArray, List.set_cons_zero, List.set_cons_succ]
      refine H.tk (i := 6) (v := ?v6x6j) ?h6x6j hS ?_
      case h6x6j => (intro w hw; go_simp; first | done | (with_reducible rfl))
      try simp only [Act.put, List.setIfInBounds_toArray, List.set_cons_zero, List.set_cons_succ]
      refine H.one (i := 7) (by simp only [List.getElem?_toArray, List.getElem?_cons_succ, List.getElem?_cons_zero]; rfl) (by kernel_rfl) (by kernel_rfl) (fun K hK => ?_)
      refine wp_store_row 44 _ _ rfl (w.heap.size + 1 + 1) (Kx.cells (cw.setP kk m.pfx)) rfl rfl 44 Kx.zero.cells R0.out infoX rfl (oneX _) ?_
      refine hK.out _ _ (hS.row (by omega) _) ?_
      clear hK K
      have hS := (show Us w (cw.setP kk m.pfx) m (X1.setRow (w.heap.size + 1 + 1) (Kx.cells (cw.setP kk m.pfx))) from hS.row (by omega) _)
      try simp only [Act.put]
      refine H.tk (i := 8) (v := (Value.int IntKind.i64 0)) (fun w _ => rfl) hS ?_
      try simp only [Act.put, List.setIfInBounds_toArray, List.set_cons_zero, List.set_cons_succ]
      refine wpAnyH_done (by kernel_rfl) ?_ _
      go_wp2_with fail
      exact bodyPost_ret (v := .tuple #[.string us, .agg (Kx.cells (cw.setP kk m.pfx)), .int .i64 0]) (results_mid (ty := 44) rfl _ _ (w.heap.size + 1 + 1) (.agg (Kx.cells (cw.setP kk m.pfx))) (.string us) rfl rfl (loadVarK shX (R0.out.put (Kx.cells (cw.setP kk m.pfx))) rfl) (.int .i64 0) rfl) rfl ⟨by rw [HY.out], hS.bel⟩
    rw [if_neg (fun e => by rcases e with e | e; exact h0 e; exact hpe e)] at hod
    rw [decide_eq_false hpe] at np1 np2
    obtain ⟨hz1, hz2⟩ := (hpz (by omega)).resolve_left hpe
    have hq2 : (⟨((c.pf m.ae).data.toList.drop (baseN m.ae)).toArray⟩ : ByteArray) = (c.pf m.ae).extract (baseN m.ae) (c.pf m.ae).size := text_eq (by rw [ext_to])
    have cut := sl_l (c.pf m.ae) (baseN m.ae : Nat) (baseN m.ae) _ rfl hz2 rfl
    have hqz : ((c.pf m.ae).extract (baseN m.ae) (c.pf m.ae).size).size ≤ 16 := by rw [← hq2, mk_size, List.length_drop, J1.size_list]; omega
    rw [hq2] at hod
    have PL := Lib.hid (fun V => Pre.rlead_any ((c.pf m.ae).extract (baseN m.ae) (c.pf m.ae).size) (cutP m.ae m.pfx m.plen) V (by omega) (by omega))
    rw [← hod] at PL
    have PE := Lib.hid (fun V => J2.base_any m.ae V)
    have c5 := D.out.m0.cs.c5
    have d := pf_at D.out.s0 hk4
    rw [hpfk] at d
    have c5k := c5
    rw [HKK.out] at c5k
    have PFA := Lib.hid (show ∀ W, Us w cw m W → W.cell? ⟨w.heap.size, kk, none⟩ = some (.string (c.pf m.ae)) from fun W h => by have := pf_at h.s0 hk4; rw [hpfk] at this; exact this)
    clear hod hpz hpfx h0 a0 hcpz hpe hz1 hz2 hq2 hqz c5
    generalize omN c m = nn at *
    generalize (c.pf m.ae).extract (baseN m.ae) (c.pf m.ae).size = q2 at *
    generalize baseN m.ae = bn at *
    generalize cutP m.ae m.pfx m.plen = cp at *
    go_upto_region 19 with (first | (refine st_yes (v := .pointer (some ⟨w.heap.size, kk, none⟩)) (by rfl) rfl (ex_index rfl rfl rfl (index4 w.heap.size kk hk4 _)) ?_))
    clear c5k d
    refine wp_region_held_drew (S := fun W => Us w (cw) m W) (by kernel_rfl) D.out.drew (fun hS => ?_)
    have R0 := Lib.hid (show Bk 44 V.drew (w.heap.size + 1 + 1) Kx.zero.cells from R0.out)
    clear D
    generalize V.drew = X0 at *
    refine H.tk (i := 0) (v := ?v0x1k) ?h0x1k hS ?_
    case h0x1k => (intro w hw; go_simp; first | done | (with_reducible rfl))
    try simp only [Act.put, List.setIfInBounds_toArray, List.set_cons_zero, List.set_cons_succ]
    refine H.tk (i := 1) (v := ?v1x2k) ?h1x2k hS ?_
    case h1x2k => (intro w hw; have c := (hw.m0).cs.c5; go_simp; first | done | (with_reducible rfl))
    try simp only [Act.put, List.setIfInBounds_toArray, List.set_cons_zero, List.set_cons_succ]
    refine H.tk (i := 2) (v := ?v2x3k) ?h2x3k hS ?_
    case h2x3k => (intro w hw; go_simp; first | done | (with_reducible rfl))
    try simp only [Act.put, List.setIfInBounds_toArray, List.set_cons_zero, List.set_cons_succ]
    refine H.tk (i := 3) (v := .pointer (some ⟨w.heap.size, kk, none⟩)) ?h3x4k hS ?_
    case h3x4k => exact (fun w1 hw => ex_index (vx := .pointer (some ⟨w.heap.size, 0, none⟩)) (vy := .int .i64 m.ae) rfl rfl rfl (by rw [HKK.out]; exact index4 _ _ hk4 _))
    try simp only [Act.put, List.setIfInBounds_toArray, List.set_cons_zero, List.set_cons_succ]
    refine H.tk (i := 4) (v := ?v4x5k) ?h4x5k hS ?_
    case h4x5k => (intro w hw; have c := PFA.out _ hw; go_simp; first | done | (with_reducible rfl))
    try simp only [Act.put, List.setIfInBounds_toArray, List.set_cons_zero, List.set_cons_succ]
    refine H.tk (i := 5) (v := ?v5x6k) ?h5x6k hS ?_
    case h5x6k => (intro w hw; go_simp; first | done | (with_reducible rfl))
    try simp only [Act.put, List.setIfInBounds_toArray, List.set_cons_zero, List.set_cons_succ]
    refine H.tk (i := 6) (v := ?v6x7k) ?h6x7k hS ?_
    case h6x7k => (intro w hw; have c := (hw.m0).cs.c5; go_simp; first | done | (with_reducible rfl))
    try simp only [Act.put, List.setIfInBounds_toArray, List.set_cons_zero, List.set_cons_succ]
    refine H.tk (i := 9) (v := .agg (M.cells m)) ?h9x8k hS ?_
    case h9x8k => exact (fun w hw => run_loadM (x := .tmp 3) rfl rfl hw.m0)
    try simp only [Act.put, List.setIfInBounds_toArray, List.set_cons_zero, List.set_cons_succ]
    refine H.one (i := 7) (by simp only [List.getElem?_toArray, List.getElem?_cons_succ, List.getElem?_cons_zero]; rfl) (by kernel_rfl) (by kernel_rfl) (fun K hK => ?_)
    go_simp
    refine (PE.out _).mono ?_
    rintro e _ ⟨rfl, rfl⟩
    refine hK.out _ _ hS ?_
    clear hK K
    try simp only [Act.put, List.setIfInBounds_toArray, List.set_cons_zero, List.set_cons_succ]
    refine H.tk (i := 8) (v := ?v8x9k) ?h8x9k hS ?_
    case h8x9k => (intro w hw; go_simp; first | done | (with_reducible rfl))
    try simp only [Act.put, List.setIfInBounds_toArray, List.set_cons_zero, List.set_cons_succ]
    refine H.one (i := 10) (by simp only [List.getElem?_toArray, List.getElem?_cons_succ, List.getElem?_cons_zero]; rfl) (by kernel_rfl) (by kernel_rfl) (fun K hK => ?_)
    go_simp
    refine (PB.out _ hS.i).mono ?_
    rintro e X1 ⟨rfl, hb⟩
    have hS' := hS.call hb
    have R0 := Lib.hid (R0.out.below hb)
    refine hK.out _ _ hS' ?_
    clear hK K hb hS
    have hS := hS'
    clear hS'
    try simp only [Act.put, List.setIfInBounds_toArray, List.set_cons_zero, List.set_cons_succ]
    refine H.one (i := 11) (by simp only [List.getElem?_toArray, List.getElem?_cons_succ, List.getElem?_cons_zero]; rfl) (by kernel_rfl) (by kernel_rfl) (fun K hK => ?_)
    go_simp
    refine (PL.out _).mono ?_
    rintro e X2 ⟨rfl, hb⟩
    have hS' := hS.call hb
    have R0 := Lib.hid (R0.out.below hb)
    refine hK.out _ _ hS' ?_
    clear hK K hb hS
    have hS := hS'
    clear hS'
    try simp only [Act.put, List.setIfInBounds_toArray, List.set_cons_zero, List.set_cons_succ]
    refine H.tk (i := 12) (v := ?v12x10k) ?h12x10k hS ?_
    case h12x10k => (intro w hw; go_simp; first | done | (with_reducible rfl))
    try simp only [Act.put, List.setIfInBounds_toArray, List.set_cons_zero, List.set_cons_succ]
    refine wpAnyH_done (by kernel_rfl) ?_ _
    have D := Lib.hid hS
    have c5 := D.out.m0.cs.c5
    rw [HKK.out] at c5
    have c6 := D.out.m0.cs.c6
    have d := pf_at D.out.s0 hk4
    have fd := D.out.s0.frozen kk
    rw [hpfk] at d
    go_upto_region 22 with (first | (refine st_yes (v := .pointer (some ⟨w.heap.size, kk, none⟩)) (by rfl) rfl (ex_index rfl rfl rfl (index4 w.heap.size kk hk4 _)) ?_))
    have D := Lib.hid (D.out.set (c' := cw.setP kk m.pfx) (k := kk) (v := .string m.pfx) (setP_cs _ _ hk4))
    have R0 := Lib.hid (R0.out.off (p := ⟨w.heap.size, kk, none⟩) (by show w.heap.size + 1 + 1 ≠ w.heap.size; omega) (.string m.pfx))
    clear c5 c6 d fd e0 np1 np2 hS PFA hpfk
    generalize World.setCell _ ⟨w.heap.size, kk, none⟩ (.string m.pfx) = V at *
    refine wp_region_held_drew (S := fun W => Us w ((cw.setP kk m.pfx)) m W) (by kernel_rfl) D.out.drew (fun hS => ?_)
    have R0 := Lib.hid (show Bk 44 V.drew (w.heap.size + 1 + 1) Kx.zero.cells from R0.out)
    clear D
    generalize V.drew = X0 at *
    refine H.tk (i := 0) (v := ?v0x1l) ?h0x1l hS ?_
    case h0x1l => (intro w hw; go_simp; first | done | (with_reducible rfl))
    try simp only [Act.put, List.setIfInBounds_toArray, List.set_cons_zero, List.set_cons_succ]
    refine H.tk (i := 1) (v := .agg (M.cells m)) ?h1x2l hS ?_
    case h1x2l => exact (fun w hw => run_loadM (x := .tmp 3) rfl rfl hw.m0)
    try simp only [Act.put, List.setIfInBounds_toArray, List.set_cons_zero, List.set_cons_succ]
    refine H.tk (i := 2) (v := ?v2x3l) ?h2x3l hS ?_
    case h2x3l => (intro w hw; go_simp; first | done | (with_reducible rfl))
    try simp only [Act.put, List.setIfInBounds_toArray, List.set_cons_zero, List.set_cons_succ]
    refine H.tk (i := 5) (v := .agg (Kx.cells (cw.setP kk m.pfx))) ?h5x4l hS ?_
    case h5x4l => exact (fun w hw => run_loadK shX (x := .tmp 2) rfl rfl hw.s0 rfl)
    try simp only [Act.put, List.setIfInBounds_toArray, List.set_cons_zero, List.set_cons_succ]
    refine H.one (i := 3) (by simp only [List.getElem?_toArray, List.getElem?_cons_succ, List.getElem?_cons_zero]; rfl) (by kernel_rfl) (by kernel_rfl) (fun K hK => ?_)
    go_simp
    refine (PU.out _ hS.i).mono ?_
    rintro e X1 ⟨rfl, hb⟩
    have hS' := hS.call hb
    have R0 := Lib.hid (R0.out.below hb)
    refine hK.out _ _ hS' ?_
    clear hK K hb hS
    have hS := hS'
    clear hS'
    try simp only [Act.put, List.setIfInBounds_toArray, List.set_cons_zero, List.set_cons_succ]
    refine H.tk (i := 4) (v := ?v4x5l) ?h4x5l hS ?_
    case h4x5l => (intro w hw; go_simp; first | done | (with_reducible rfl))
    try simp only [Act.put, List.setIfInBounds_toArray, List.set_cons_zero, List.set_cons_succ]
    refine H.tk (i := 6) (v := ?v6x6l) ?h6x6l hS ?_
    case h6x6l => (intro w hw; go_simp; first | done | (with_reducible rfl))
    try simp only [Act.put, List.setIfInBounds_toArray, List.set_cons_zero, List.set_cons_succ]
    refine H.one (i := 7) (by simp only [List.getElem?_toArray, List.getElem?_cons_succ, List.getElem?_cons_zero]; rfl) (by kernel_rfl) (by kernel_rfl) (fun K hK => ?_)
    refine wp_store_row 44 _ _ rfl (w.heap.size + 1 + 1) (Kx.cells (cw.setP kk m.pfx)) rfl rfl 44 Kx.zero.cells R0.out infoX rfl (oneX _) ?_
    refine hK.out _ _ (hS.row (by omega) _) ?_
    clear hK K
    have hS := (show Us w (cw.setP kk m.pfx) m (X1.setRow (w.heap.size + 1 + 1) (Kx.cells (cw.setP kk m.pfx))) from hS.row (by omega) _)
    try simp only [Act.put]
    refine H.tk (i := 8) (v := (Value.int IntKind.i64 0)) (fun w _ => rfl) hS ?_
    try simp only [Act.put, List.setIfInBounds_toArray, List.set_cons_zero, List.set_cons_succ]
    refine wpAnyH_done (by kernel_rfl) ?_ _
    go_wp2_with fail
    exact bodyPost_ret (v := .tuple #[.string us, .agg (Kx.cells (cw.setP kk m.pfx)), .int .i64 0]) (results_mid (ty := 44) rfl _ _ (w.heap.size + 1 + 1) (.agg (Kx.cells (cw.setP kk m.pfx))) (.string us) rfl rfl (loadVarK shX (R0.out.put (Kx.cells (cw.setP kk m.pfx))) rfl) (.int .i64 0) rfl) rfl ⟨by rw [HY.out], hS.bel⟩
end Go.Proofs.YtjhfpobjbijcpaaGreatDoor.L9
