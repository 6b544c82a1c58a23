/-
  The TLVs ahead of an Update: the program's way. Conditions: what is known may be; the Update may be; its lists stand in the world.
-/
import Derived.Test.YtjhfpobjbijcpaaGreatDoorE26
namespace Go.Proofs.YtjhfpobjbijcpaaGreatDoor.Lw
open Go.ChangeShapes Go.WideShapes Go.ChangeAt Go.RowKit
open Go.Proofs.YtjhfpobjbijcpaaGreatDoor.Ms
open Go.Proofs.YtjhfpobjbijcpaaGreatDoor.Box
open Go.Proofs.YtjhfpobjbijcpaaGreatDoor.An
open Go.Proofs.YtjhfpobjbijcpaaGreatDoor.Nu (layN text_eq ext_list)
open Go.Proofs.YtjhfpobjbijcpaaGreatDoor.S1 (okS putS putS_le)
open Go.Proofs.YtjhfpobjbijcpaaGreatDoor.J1
open Go.Proofs.YtjhfpobjbijcpaaGreatDoor.J2 (nil_eq nil_em)
open Go.Proofs.YtjhfpobjbijcpaaGreatDoor.K1
open Go.Proofs.YtjhfpobjbijcpaaGreatDoor.Kb
open Go.Proofs.YtjhfpobjbijcpaaGreatDoor.K2 (fam_any)
open Go.Proofs.YtjhfpobjbijcpaaGreatDoor.Pre (leadN leastN cutL)
open Go.Proofs.YtjhfpobjbijcpaaGreatDoor.L1
open Go.Proofs.YtjhfpobjbijcpaaGreatDoor.L2
open Go.Proofs.YtjhfpobjbijcpaaGreatDoor.L4
open Go.Proofs.YtjhfpobjbijcpaaGreatDoor.Cx
open Go.Proofs.YtjhfpobjbijcpaaGreatDoor.F1 (enc1 ok1 put_ok putO)
open Go.Proofs.YtjhfpobjbijcpaaGreatDoor.F6 (cat_is PutIs)
open Go.Proofs.YtjhfpobjbijcpaaGreatDoor.F2 (sl_l)
open Go.Proofs.YtjhfpobjbijcpaaGreatDoor.Bk (Bk alloc_size run_loadK loadVarK)
open Go.Proofs.YtjhfpobjbijcpaaGreatDoor.Js (Lst bs_one app_one cells_new)
open Go.Proofs.YtjhfpobjbijcpaaGreatDoor.Hs
open Go.Proofs.YtjhfpobjbijcpaaGreatDoor.Hy
open Go.Proofs.YtjhfpobjbijcpaaGreatDoor.Or (st_yes)
set_option linter.unusedVariables false
set_option maxRecDepth 100000
set_option maxRecDepth 100000
open Go.Proofs.YtjhfpobjbijcpaaGreatDoor.L6
/-- What way answers. -/
def wayP (c : Kx) (m : M) : List ByteArray × Kx × Int := if badC c m = true then ([], c, 9) else (elB (wayE c m), wayC c m, 0)
set_option maxHeartbeats 25600000 in
set_option maxRecDepth 100000 in
theorem way_any (c : Kx) (m : M) (w : World) (hm : m.In w) (hc : okC c = true) (h : okU m = true) : Calls Tryz.prog 105 #[.agg c.cells, .agg m.cells] w (AnsW (wayP c m) w) := by
  have o := (oku_iff m).1 h
  obtain ⟨a0, a1, _, _⟩ := len_range (in_cases o.pfx).1
  have P1 := Lib.hid (fun V => fam_any m.ae V)
  by_cases hf : m.metric = 65535
  · have HY := Lib.hid (show wayP c m = ([], c, 0) by
      unfold wayP badC wayE wayC
      rw [if_pos hf, if_pos hf, decide_eq_true hf]
      simp [elB])
    go_enter Tryz.func105, Tryz.ntmps105
    go_upto_region 1 with fail
    change Code.wp _ _ _ _ (((w.alloc (.cells c.cells 44)).alloc (.cells m.cells 38)).alloc (.cells Kx.zero.cells 44))
    have D := Lib.hid ((Us.start w c m hm).call (balloc (Below.refl _ _) (.cells Kx.zero.cells 44)))
    have R0 := Lib.hid (res_new w c m)
    clear hm
    generalize ((w.alloc (.cells c.cells 44)).alloc (.cells m.cells 38)).alloc (.cells Kx.zero.cells 44) = V at *
    have c5 := D.out.m0.cs.c5
    have c9 := D.out.m0.cs.c9
    have c10 := D.out.m0.cs.c10
    have c11 := D.out.m0.cs.c11
    rw [hf] at c10
    clear hf o a0 a1 hc h
    go_wp2_with fail
    refine (P1.out _).mono ?_
    rintro r _ ⟨rfl, rfl⟩
    go_upto_region 3 with fail
    clear c5 c9 c10 c11
    have R0 := Lib.hid (show Bk 44 V.drew (w.heap.size + 1 + 1) Kx.zero.cells from R0.out)
    have HB := Lib.hid (show Below w.heap.size w V.drew from D.out.bel.drew)
    refine wp_region_held_drew (S := fun X => Bk 44 X w.heap.size (Kx.cells c)) (by kernel_rfl) (D.out.s0) (fun hS => ?_)
    clear D
    generalize V.drew = Z0 at *
    refine H.tk (i := 0) (v := .agg (Kx.cells c)) ?h0x1f1 hS ?_
    case h0x1f1 => exact (fun w hw => run_loadK shX (x := .tmp 2) rfl rfl hw rfl)
    try simp only [Act.put, List.setIfInBounds_toArray, List.set_cons_zero, List.set_cons_succ]
    refine H.tk (i := 1) (v := (Value.slice none 0 0)) (fun w _ => rfl) hS ?_
    try simp only [Act.put, List.setIfInBounds_toArray, List.set_cons_zero, List.set_cons_succ]
    refine H.one (i := 2) (by simp only [List.getElem?_toArray, List.getElem?_cons_succ, List.getElem?_cons_zero]; rfl) (by kernel_rfl) (by kernel_rfl) (fun K hK => ?_)
    refine wp_store_row 44 _ _ rfl (w.heap.size + 1 + 1) (Kx.cells c) rfl rfl 44 Kx.zero.cells R0.out infoX rfl (oneX _) ?_
    refine hK.out _ _ (hS.row (by omega) _) ?_
    clear hK K
    have hS := (show Bk 44 (Z0.setRow (w.heap.size + 1 + 1) (Kx.cells c)) w.heap.size (Kx.cells c) from hS.row (by omega) _)
    try simp only [Act.put]
    refine H.tk (i := 3) (v := (Value.int IntKind.i64 0)) (fun w _ => rfl) hS ?_
    try simp only [Act.put, List.setIfInBounds_toArray, List.set_cons_zero, List.set_cons_succ]
    refine wpAnyH_done (by kernel_rfl) ?_ _
    go_wp2_with fail
    exact bodyPost_ret (v := .tuple #[.slice none 0 0, .agg (Kx.cells c), .int .i64 0]) (results_mid (ty := 44) rfl _ _ (w.heap.size + 1 + 1) (.agg (Kx.cells c)) (.slice none 0 0) rfl rfl (loadVarK shX (R0.out.put (Kx.cells c)) rfl) (.int .i64 0) rfl) rfl (AnsW.no HY.out (Box.below_setRow HB.out (by omega) _))
  have e10 : (m.metric == 65535) = false := by simpa using hf
  obtain ⟨w1, w2, _⟩ := way_near o.way hf
  obtain ⟨k, hk2, hk⟩ : ∃ k : Nat, k < 2 ∧ fam m.ae = k := by
    unfold fam
    rcases (show m.ae = 1 ∨ m.ae = 2 ∨ m.ae = 3 by omega) with e | e | e
    · exact ⟨0, by decide, by rw [e]; rfl⟩
    · exact ⟨1, by decide, by rw [e]; rfl⟩
    · exact ⟨1, by decide, by rw [e]; rfl⟩
  have nm1 := nil_eq m.next
  have nm2 := nil_em m.next
  have nc1 := nil_eq (c.nx k)
  have nc2 := nil_em (c.nx k)
  rw [hk] at P1
  cases hb : badC c m
  rotate_left
  · have HY := Lib.hid (show wayP c m = ([], c, 9) by unfold wayP; rw [hb, if_pos rfl])
    have hbb : m.next.size = 0 ∧ ¬ (c.nx k).size = 0 := by
      unfold badC at hb
      rw [hk] at hb
      simp only [Bool.and_eq_true, Bool.not_eq_true', decide_eq_true_eq, decide_eq_false_iff_not] at hb
      exact hb.2.2
    rw [decide_eq_true hbb.1] at nm1 nm2
    rw [decide_eq_false hbb.2] at nc1 nc2
    go_enter Tryz.func105, Tryz.ntmps105
    go_upto_region 1 with fail
    change Code.wp _ _ _ _ (((w.alloc (.cells c.cells 44)).alloc (.cells m.cells 38)).alloc (.cells Kx.zero.cells 44))
    have D := Lib.hid ((Us.start w c m hm).call (balloc (Below.refl _ _) (.cells Kx.zero.cells 44)))
    have R0 := Lib.hid (res_new w c m)
    clear hm
    generalize ((w.alloc (.cells c.cells 44)).alloc (.cells m.cells 38)).alloc (.cells Kx.zero.cells 44) = V at *
    have c5 := D.out.m0.cs.c5
    have c9 := D.out.m0.cs.c9
    have c10 := D.out.m0.cs.c10
    have c11 := D.out.m0.cs.c11
    have n0 := nx_at D.out.s0 hk2
    clear hf o a0 a1 hc h hb hbb hk w1 w2
    go_wp2_with fail
    refine (P1.out _).mono ?_
    rintro r _ ⟨rfl, rfl⟩
    go_upto_region 5 with (first | (refine st_yes (v := .pointer (some ⟨w.heap.size, 4 + k, none⟩)) (by rfl) rfl (ex_index rfl rfl rfl (index2 w.heap.size k hk2 _)) ?_))
    clear c5 c9 c10 c11 n0 nm1 nm2 nc1 nc2 e10
    have R0 := Lib.hid (show Bk 44 V.drew (w.heap.size + 1 + 1) Kx.zero.cells from R0.out)
    have HB := Lib.hid (show Below w.heap.size w V.drew from D.out.bel.drew)
    refine wp_region_held_drew (S := fun X => Bk 44 X w.heap.size (Kx.cells c)) (by kernel_rfl) (D.out.s0) (fun hS => ?_)
    clear D
    generalize V.drew = Z0 at *
    refine H.tk (i := 0) (v := .agg (Kx.cells c)) ?h0x1f2 hS ?_
    case h0x1f2 => exact (fun w hw => run_loadK shX (x := .tmp 2) rfl rfl hw rfl)
    try simp only [Act.put, List.setIfInBounds_toArray, List.set_cons_zero, List.set_cons_succ]
    refine H.tk (i := 1) (v := (Value.slice none 0 0)) (fun w _ => rfl) hS ?_
    try simp only [Act.put, List.setIfInBounds_toArray, List.set_cons_zero, List.set_cons_succ]
    refine H.one (i := 2) (by simp only [List.getElem?_toArray, List.getElem?_cons_succ, List.getElem?_cons_zero]; rfl) (by kernel_rfl) (by kernel_rfl) (fun K hK => ?_)
    refine wp_store_row 44 _ _ rfl (w.heap.size + 1 + 1) (Kx.cells c) rfl rfl 44 Kx.zero.cells R0.out infoX rfl (oneX _) ?_
    refine hK.out _ _ (hS.row (by omega) _) ?_
    clear hK K
    have hS := (show Bk 44 (Z0.setRow (w.heap.size + 1 + 1) (Kx.cells c)) w.heap.size (Kx.cells c) from hS.row (by omega) _)
    try simp only [Act.put]
    refine H.tk (i := 3) (v := (Value.int IntKind.i64 9)) (fun w _ => rfl) hS ?_
    try simp only [Act.put, List.setIfInBounds_toArray, List.set_cons_zero, List.set_cons_succ]
    refine wpAnyH_done (by kernel_rfl) ?_ _
    go_wp2_with fail
    exact bodyPost_ret (v := .tuple #[.slice none 0 0, .agg (Kx.cells c), .int .i64 9]) (results_mid (ty := 44) rfl _ _ (w.heap.size + 1 + 1) (.agg (Kx.cells c)) (.slice none 0 0) rfl rfl (loadVarK shX (R0.out.put (Kx.cells c)) rfl) (.int .i64 9) rfl) rfl (AnsW.no HY.out (Box.below_setRow HB.out (by omega) _))
  have P2 := Lib.hid (fun V => id_any m.id V w2)
  have hnn := near_next h hf hb
  have qi := str_beq m.id c.id
  have qn := str_beq m.next (c.nx k)
  have hwp : wayP c m = (elB (wayE c m), wayC c m, 0) := by unfold wayP; rw [hb, if_neg (by decide)]
  unfold wayE wayC at hwp
  rw [if_neg hf, if_neg hf] at hwp
  rw [hk] at hwp hnn
  have hss : m.next = c.nx k → ({ c with id := m.id } : Kx).setN k m.next = { c with id := m.id } := fun e => by rw [← hk]; rw [← hk] at e; exact set_same e
  have hbo : m.next.size = 0 → (c.nx k).size = 0 := fun e => by
    unfold badC at hb
    rw [hk, decide_eq_true o.kind, decide_eq_false hf, decide_eq_true e] at hb
    simpa using hb
  clear o a0 a1 hc hb hf h w1 w2 hk
  by_cases hz : m.next.size = 0
  · have hn : m.next = c.nx k := by rw [empty_of hz, empty_of (hbo hz)]
    by_cases hi : m.id = c.id
    · rw [decide_eq_true hz] at nm1 nm2
      rw [decide_eq_true (hbo hz)] at nc1 nc2
      rw [decide_eq_true hi] at qi
      rw [decide_eq_true hn] at qn
      rw [if_pos hi, if_pos hn] at hwp
      rw [hss hn] at hwp
      rw [show ({ c with id := m.id } : Kx) = c by rw [hi]] at hwp
      rw [show elB ([] ++ []) = [] from rfl] at hwp
      have HY := Lib.hid hwp
      clear hwp hnn hss hbo hz hi hn
      go_enter Tryz.func105, Tryz.ntmps105
      go_upto_region 1 with fail
      change Code.wp _ _ _ _ (((w.alloc (.cells c.cells 44)).alloc (.cells m.cells 38)).alloc (.cells Kx.zero.cells 44))
      have D := Lib.hid ((Us.start w c m hm).call (balloc (Below.refl _ _) (.cells Kx.zero.cells 44)))
      have R0 := Lib.hid (res_new w c m)
      clear hm
      generalize ((w.alloc (.cells c.cells 44)).alloc (.cells m.cells 38)).alloc (.cells Kx.zero.cells 44) = V at *
      have c5 := D.out.m0.cs.c5
      have c9 := D.out.m0.cs.c9
      have c10 := D.out.m0.cs.c10
      have c11 := D.out.m0.cs.c11
      have n0 := nx_at D.out.s0 hk2
      have i0 := D.out.s0.cell 6 (.string c.id) rfl
      have HL := Lib.hid (Lst.nil (w.heap.size + 1 + 1 + 1) V)
      go_wp2_with fail
      refine (P1.out _).mono ?_
      rintro r _ ⟨rfl, rfl⟩
      go_upto_region 7 with (first | (refine st_yes (v := .pointer (some ⟨w.heap.size, 4 + k, none⟩)) (by rfl) rfl (ex_index rfl rfl rfl (index2 w.heap.size k hk2 _)) ?_))
      clear nm1 nm2 nc1 nc2 e10 c5 c10
      go_upto_region 10 with fail
      clear c9 c11 n0 i0 qi
      have R0 := Lib.hid (show Bk 44 V.drew (w.heap.size + 1 + 1) Kx.zero.cells from R0.out)
      have HL := Lib.hid (HL.out.below (Below.refl _ V).drew)
      refine wp_region_held_drew (S := fun W => Us w (c) m W) (by kernel_rfl) D.out.drew (fun hS => ?_)
      clear D
      generalize V.drew = V at *
      refine H.tk (i := 0) (v := ?v0x1ar) ?h0x1ar hS ?_
      case h0x1ar => (intro w hw; go_simp; first | done | (with_reducible rfl))
      try simp only [Act.put, List.setIfInBounds_toArray, List.set_cons_zero, List.set_cons_succ]
      refine H.tk (i := 1) (v := ?v1x2ar) ?h1x2ar hS ?_
      case h1x2ar => (intro w hw; have c := (hw.m0).cs.c9; go_simp; first | done | (with_reducible rfl))
      try simp only [Act.put, List.setIfInBounds_toArray, List.set_cons_zero, List.set_cons_succ]
      refine H.tk (i := 2) (v := ?v2x3ar) ?h2x3ar hS ?_
      case h2x3ar => (intro w hw; go_simp; first | done | (with_reducible rfl))
      try simp only [Act.put, List.setIfInBounds_toArray, List.set_cons_zero, List.set_cons_succ]
      refine H.tk (i := 3) (v := ?v3x4ar) ?h3x4ar hS ?_
      case h3x4ar => (intro w hw; go_simp; first | done | (with_reducible rfl))
      try simp only [Act.put, List.setIfInBounds_toArray, List.set_cons_zero, List.set_cons_succ]
      refine H.tk (i := 4) (v := .pointer (some ⟨w.heap.size, 4 + k, none⟩)) ?h4x5ar hS ?_
      case h4x5ar => exact (fun w1 hw => ex_index (vx := .pointer (some ⟨w.heap.size, 4, none⟩)) (vy := .int .i64 (k : Int)) rfl rfl rfl (index2 _ _ hk2 _))
      try simp only [Act.put, List.setIfInBounds_toArray, List.set_cons_zero, List.set_cons_succ]
      refine H.tk (i := 5) (v := ?v5x6ar) ?h5x6ar hS ?_
      case h5x6ar => (intro w hw; have c : _ = some (Value.string (c.nx k)) := nx_at hw.s0 hk2; go_simp; first | done | (with_reducible rfl))
      try simp only [Act.put, List.setIfInBounds_toArray, List.set_cons_zero, List.set_cons_succ]
      refine H.tk (i := 6) (v := ?v6x7ar) ?h6x7ar hS ?_
      case h6x7ar => (intro w hw; go_simp; first | done | (with_reducible rfl))
      try simp only [Act.put, List.setIfInBounds_toArray, List.set_cons_zero, List.set_cons_succ]
      refine wpAnyH_done (by kernel_rfl) ?_ _
      have D := Lib.hid hS
      go_upto_region 13 with fail
      clear hS
      have HY := Lib.hid (show wayP c m = ([], c, 0) by rw [HY.out] <;> rfl)
      have R0 := Lib.hid (show Bk 44 V.drew (w.heap.size + 1 + 1) Kx.zero.cells from R0.out)
      have HB := Lib.hid (show Below w.heap.size w V.drew from D.out.bel.drew)
      refine wp_region_held_drew (S := fun X => Bk 44 X w.heap.size (Kx.cells c)) (by kernel_rfl) (D.out.s0) (fun hS => ?_)
      clear D
      generalize V.drew = Z0 at *
      refine H.tk (i := 0) (v := .slice none 0 0) ?h0x1af hS ?_
      case h0x1af => exact (fun w hw => by go_simp)
      try simp only [Act.put, List.setIfInBounds_toArray, List.set_cons_zero, List.set_cons_succ]
      refine H.tk (i := 1) (v := .agg (Kx.cells c)) ?h1x2af hS ?_
      case h1x2af => exact (fun w hw => run_loadK shX (x := .tmp 2) rfl rfl hw rfl)
      try simp only [Act.put, List.setIfInBounds_toArray, List.set_cons_zero, List.set_cons_succ]
      refine H.tk (i := 2) (v := ?v2x3af) ?h2x3af hS ?_
      case h2x3af => (intro w hw; go_simp; first | done | (with_reducible rfl))
      try simp only [Act.put, List.setIfInBounds_toArray, List.set_cons_zero, List.set_cons_succ]
      refine H.one (i := 3) (by simp only [List.getElem?_toArray, List.getElem?_cons_succ, List.getElem?_cons_zero]; rfl) (by kernel_rfl) (by kernel_rfl) (fun K hK => ?_)
      refine wp_store_row 44 _ _ rfl (w.heap.size + 1 + 1) (Kx.cells c) rfl rfl 44 Kx.zero.cells R0.out infoX rfl (oneX _) ?_
      refine hK.out _ _ (hS.row (by omega) _) ?_
      clear hK K
      have hS := (show Bk 44 (Z0.setRow (w.heap.size + 1 + 1) (Kx.cells c)) w.heap.size (Kx.cells c) from hS.row (by omega) _)
      try simp only [Act.put]
      refine H.tk (i := 4) (v := (Value.int IntKind.i64 0)) (fun w _ => rfl) hS ?_
      try simp only [Act.put, List.setIfInBounds_toArray, List.set_cons_zero, List.set_cons_succ]
      refine wpAnyH_done (by kernel_rfl) ?_ _
      go_wp2_with fail
      exact bodyPost_ret (v := .tuple #[.slice none 0 0, .agg (Kx.cells c), .int .i64 0]) (results_mid (ty := 44) rfl _ _ (w.heap.size + 1 + 1) (.agg (Kx.cells c)) (.slice none 0 0) rfl rfl (loadVarK shX (R0.out.put (Kx.cells c)) rfl) (.int .i64 0) rfl) rfl (AnsW.no HY.out (Box.below_setRow HB.out (by omega) _))
    · rw [decide_eq_true hz] at nm1 nm2
      rw [decide_eq_true (hbo hz)] at nc1 nc2
      rw [decide_eq_false hi] at qi
      rw [decide_eq_true hn] at qn
      rw [if_neg hi, if_pos hn] at hwp
      rw [hss hn] at hwp
      rw [show elB ([(idD m.id, 6)] ++ []) = [⟨(enc1 (idD m.id, 6)).toArray⟩] from rfl] at hwp
      have HY := Lib.hid hwp
      clear hwp hnn hss hbo hz hi hn
      generalize (⟨(enc1 (idD m.id, 6)).toArray⟩ : ByteArray) = x1 at *
      go_enter Tryz.func105, Tryz.ntmps105
      go_upto_region 1 with fail
      change Code.wp _ _ _ _ (((w.alloc (.cells c.cells 44)).alloc (.cells m.cells 38)).alloc (.cells Kx.zero.cells 44))
      have D := Lib.hid ((Us.start w c m hm).call (balloc (Below.refl _ _) (.cells Kx.zero.cells 44)))
      have R0 := Lib.hid (res_new w c m)
      clear hm
      generalize ((w.alloc (.cells c.cells 44)).alloc (.cells m.cells 38)).alloc (.cells Kx.zero.cells 44) = V at *
      have c5 := D.out.m0.cs.c5
      have c9 := D.out.m0.cs.c9
      have c10 := D.out.m0.cs.c10
      have c11 := D.out.m0.cs.c11
      have n0 := nx_at D.out.s0 hk2
      have i0 := D.out.s0.cell 6 (.string c.id) rfl
      have HL := Lib.hid (Lst.nil (w.heap.size + 1 + 1 + 1) V)
      go_wp2_with fail
      refine (P1.out _).mono ?_
      rintro r _ ⟨rfl, rfl⟩
      go_upto_region 7 with (first | (refine st_yes (v := .pointer (some ⟨w.heap.size, 4 + k, none⟩)) (by rfl) rfl (ex_index rfl rfl rfl (index2 w.heap.size k hk2 _)) ?_))
      clear nm1 nm2 nc1 nc2 e10 c5 c10
      go_wp2_with fail
      clear c9 c11 n0 i0 qi
      refine (P2.out _).mono ?_
      rintro r w1 ⟨rfl, hb⟩
      have D := Lib.hid (D.out.call hb)
      have R0 := Lib.hid (R0.out.below hb)
      have HL := Lib.hid (HL.out.below hb)
      clear hb
      have bel := balloc (Below.refl w1.heap.size w1) (.cells #[.string x1] 9)
      have D := Lib.hid (D.out.call bel)
      have R0 := Lib.hid (R0.out.below bel)
      have HL := Lib.hid (HL.out.below bel)
      have hzz := D.out.bel.size
      have hz3 := R0.out.lt
      go_upto_region 9 with (first | (refine bs_one rfl _ rfl (s := x1) rfl ?_) | (at_builtin; refine app_one rfl _ _ rfl (w.heap.size + 1 + 1 + 1) _ [] x1 w1.heap.size 1 rfl HL.out rfl (cells_new x1 w1) ?cl9 ?cb9 ?_))
      case cl9 => exact Nat.zero_le _
      case cb9 => omega
      intro v' w2 hl hb hz
      have D := Lib.hid (D.out.under hb (by omega))
      have R0 := Lib.hid (R0.out.under hb (by omega))
      obtain ⟨ls, hls⟩ : ∃ l, l = [x1] := ⟨_, rfl⟩
      rw [← hls] at hl
      have HQ1 := Lib.hid hls
      obtain ⟨qa, qk, rfl⟩ := hl.slice
      have HL := Lib.hid hl
      clear hl hb hz bel hls hzz hz3
      have c11 := D.out.m0.cs.c11
      have d := D.out.s0.cell 6 (.string c.id) rfl
      have fd := D.out.s0.frozen 6
      go_upto_region 10 with fail
      clear c11 d fd
      have D := Lib.hid (D.out.set (c' := { c with id := m.id }) (k := 6) (v := .string m.id) rfl)
      have R0 := Lib.hid (R0.out.off (p := ⟨w.heap.size, 6, none⟩) (by show w.heap.size + 1 + 1 ≠ w.heap.size; omega) (.string m.id))
      have HL := Lib.hid (HL.out.cellset (p := ⟨w.heap.size, 6, none⟩) (by show w.heap.size < _; omega) (.string m.id))
      generalize w2.setCell ⟨w.heap.size, 6, none⟩ (.string m.id) = V at *
      have R0 := Lib.hid (show Bk 44 V.drew (w.heap.size + 1 + 1) Kx.zero.cells from R0.out)
      have HL := Lib.hid (HL.out.below (Below.refl _ V).drew)
      refine wp_region_held_drew (S := fun W => Us w ({ c with id := m.id }) m W) (by kernel_rfl) D.out.drew (fun hS => ?_)
      clear D
      generalize V.drew = V at *
      refine H.tk (i := 0) (v := ?v0x1br) ?h0x1br hS ?_
      case h0x1br => (intro w hw; go_simp; first | done | (with_reducible rfl))
      try simp only [Act.put, List.setIfInBounds_toArray, List.set_cons_zero, List.set_cons_succ]
      refine H.tk (i := 1) (v := ?v1x2br) ?h1x2br hS ?_
      case h1x2br => (intro w hw; have c := (hw.m0).cs.c9; go_simp; first | done | (with_reducible rfl))
      try simp only [Act.put, List.setIfInBounds_toArray, List.set_cons_zero, List.set_cons_succ]
      refine H.tk (i := 2) (v := ?v2x3br) ?h2x3br hS ?_
      case h2x3br => (intro w hw; go_simp; first | done | (with_reducible rfl))
      try simp only [Act.put, List.setIfInBounds_toArray, List.set_cons_zero, List.set_cons_succ]
      refine H.tk (i := 3) (v := ?v3x4br) ?h3x4br hS ?_
      case h3x4br => (intro w hw; go_simp; first | done | (with_reducible rfl))
      try simp only [Act.put, List.setIfInBounds_toArray, List.set_cons_zero, List.set_cons_succ]
      refine H.tk (i := 4) (v := .pointer (some ⟨w.heap.size, 4 + k, none⟩)) ?h4x5br hS ?_
      case h4x5br => exact (fun w1 hw => ex_index (vx := .pointer (some ⟨w.heap.size, 4, none⟩)) (vy := .int .i64 (k : Int)) rfl rfl rfl (index2 _ _ hk2 _))
      try simp only [Act.put, List.setIfInBounds_toArray, List.set_cons_zero, List.set_cons_succ]
      refine H.tk (i := 5) (v := ?v5x6br) ?h5x6br hS ?_
      case h5x6br => (intro w hw; have c : _ = some (Value.string (c.nx k)) := nx_at hw.s0 hk2; go_simp; first | done | (with_reducible rfl))
      try simp only [Act.put, List.setIfInBounds_toArray, List.set_cons_zero, List.set_cons_succ]
      refine H.tk (i := 6) (v := ?v6x7br) ?h6x7br hS ?_
      case h6x7br => (intro w hw; go_simp; first | done | (with_reducible rfl))
      try simp only [Act.put, List.setIfInBounds_toArray, List.set_cons_zero, List.set_cons_succ]
      refine wpAnyH_done (by kernel_rfl) ?_ _
      have D := Lib.hid hS
      go_upto_region 13 with fail
      clear hS
      have HY := Lib.hid (show wayP c m = (ls, { c with id := m.id }, 0) by rw [HY.out, HQ1.out] <;> rfl)
      have R0 := Lib.hid (show Bk 44 V.drew (w.heap.size + 1 + 1) Kx.zero.cells from R0.out)
      have HB := Lib.hid (show Below w.heap.size w V.drew from D.out.bel.drew)
      have HL := Lib.hid (HL.out.below (Below.refl _ V).drew)
      refine wp_region_held_drew (S := fun X => Bk 44 X w.heap.size (Kx.cells ({ c with id := m.id }))) (by kernel_rfl) (D.out.s0) (fun hS => ?_)
      clear D
      generalize V.drew = Z0 at *
      refine H.tk (i := 0) (v := .slice qa ls.length qk) ?h0x1bf hS ?_
      case h0x1bf => exact (fun w hw => by go_simp)
      try simp only [Act.put, List.setIfInBounds_toArray, List.set_cons_zero, List.set_cons_succ]
      refine H.tk (i := 1) (v := .agg (Kx.cells ({ c with id := m.id }))) ?h1x2bf hS ?_
      case h1x2bf => exact (fun w hw => run_loadK shX (x := .tmp 2) rfl rfl hw rfl)
      try simp only [Act.put, List.setIfInBounds_toArray, List.set_cons_zero, List.set_cons_succ]
      refine H.tk (i := 2) (v := ?v2x3bf) ?h2x3bf hS ?_
      case h2x3bf => (intro w hw; go_simp; first | done | (with_reducible rfl))
      try simp only [Act.put, List.setIfInBounds_toArray, List.set_cons_zero, List.set_cons_succ]
      refine H.one (i := 3) (by simp only [List.getElem?_toArray, List.getElem?_cons_succ, List.getElem?_cons_zero]; rfl) (by kernel_rfl) (by kernel_rfl) (fun K hK => ?_)
      refine wp_store_row 44 _ _ rfl (w.heap.size + 1 + 1) (Kx.cells ({ c with id := m.id })) rfl rfl 44 Kx.zero.cells R0.out infoX rfl (oneX _) ?_
      refine hK.out _ _ (hS.row (by omega) _) ?_
      clear hK K
      have hS := (show Bk 44 (Z0.setRow (w.heap.size + 1 + 1) (Kx.cells ({ c with id := m.id }))) w.heap.size (Kx.cells ({ c with id := m.id })) from hS.row (by omega) _)
      try simp only [Act.put]
      refine H.tk (i := 4) (v := (Value.int IntKind.i64 0)) (fun w _ => rfl) hS ?_
      try simp only [Act.put, List.setIfInBounds_toArray, List.set_cons_zero, List.set_cons_succ]
      refine wpAnyH_done (by kernel_rfl) ?_ _
      go_wp2_with fail
      exact bodyPost_ret (v := .tuple #[.slice qa ls.length qk, .agg (Kx.cells ({ c with id := m.id })), .int .i64 0]) (results_mid (ty := 44) rfl _ _ (w.heap.size + 1 + 1) (.agg (Kx.cells ({ c with id := m.id }))) (.slice qa ls.length qk) rfl rfl (loadVarK shX (R0.out.put (Kx.cells ({ c with id := m.id }))) rfl) (.int .i64 0) rfl) rfl (by rw [HY.out]; exact ⟨qa, qk, rfl, (HL.out.under (by omega) _).mono (by omega), Box.below_setRow HB.out (by omega) _⟩)
  by_cases hi : m.id = c.id
  · by_cases hn : m.next = c.nx k
    · rw [decide_eq_false hz] at nm1 nm2
      rw [decide_eq_true hi] at qi
      rw [decide_eq_true hn] at qn
      rw [if_pos hi, if_pos hn] at hwp
      rw [hss hn] at hwp
      rw [show ({ c with id := m.id } : Kx) = c by rw [hi]] at hwp
      rw [show elB ([] ++ []) = [] from rfl] at hwp
      have HY := Lib.hid hwp
      clear hwp hnn hss hbo hz hi hn
      go_enter Tryz.func105, Tryz.ntmps105
      go_upto_region 1 with fail
      change Code.wp _ _ _ _ (((w.alloc (.cells c.cells 44)).alloc (.cells m.cells 38)).alloc (.cells Kx.zero.cells 44))
      have D := Lib.hid ((Us.start w c m hm).call (balloc (Below.refl _ _) (.cells Kx.zero.cells 44)))
      have R0 := Lib.hid (res_new w c m)
      clear hm
      generalize ((w.alloc (.cells c.cells 44)).alloc (.cells m.cells 38)).alloc (.cells Kx.zero.cells 44) = V at *
      have c5 := D.out.m0.cs.c5
      have c9 := D.out.m0.cs.c9
      have c10 := D.out.m0.cs.c10
      have c11 := D.out.m0.cs.c11
      have n0 := nx_at D.out.s0 hk2
      have i0 := D.out.s0.cell 6 (.string c.id) rfl
      have HL := Lib.hid (Lst.nil (w.heap.size + 1 + 1 + 1) V)
      go_wp2_with fail
      refine (P1.out _).mono ?_
      rintro r _ ⟨rfl, rfl⟩
      go_upto_region 7 with (first | (refine st_yes (v := .pointer (some ⟨w.heap.size, 4 + k, none⟩)) (by rfl) rfl (ex_index rfl rfl rfl (index2 w.heap.size k hk2 _)) ?_))
      clear nm1 nm2 nc1 nc2 e10 c5 c10
      go_upto_region 10 with fail
      clear c9 c11 n0 i0 qi
      have R0 := Lib.hid (show Bk 44 V.drew (w.heap.size + 1 + 1) Kx.zero.cells from R0.out)
      have HL := Lib.hid (HL.out.below (Below.refl _ V).drew)
      refine wp_region_held_drew (S := fun W => Us w (c) m W) (by kernel_rfl) D.out.drew (fun hS => ?_)
      clear D
      generalize V.drew = V at *
      refine H.tk (i := 0) (v := ?v0x1cr) ?h0x1cr hS ?_
      case h0x1cr => (intro w hw; go_simp; first | done | (with_reducible rfl))
      try simp only [Act.put, List.setIfInBounds_toArray, List.set_cons_zero, List.set_cons_succ]
      refine H.tk (i := 1) (v := ?v1x2cr) ?h1x2cr hS ?_
      case h1x2cr => (intro w hw; have c := (hw.m0).cs.c9; go_simp; first | done | (with_reducible rfl))
      try simp only [Act.put, List.setIfInBounds_toArray, List.set_cons_zero, List.set_cons_succ]
      refine H.tk (i := 2) (v := ?v2x3cr) ?h2x3cr hS ?_
      case h2x3cr => (intro w hw; go_simp; first | done | (with_reducible rfl))
      try simp only [Act.put, List.setIfInBounds_toArray, List.set_cons_zero, List.set_cons_succ]
      refine H.tk (i := 3) (v := ?v3x4cr) ?h3x4cr hS ?_
      case h3x4cr => (intro w hw; go_simp; first | done | (with_reducible rfl))
      try simp only [Act.put, List.setIfInBounds_toArray, List.set_cons_zero, List.set_cons_succ]
      refine H.tk (i := 4) (v := .pointer (some ⟨w.heap.size, 4 + k, none⟩)) ?h4x5cr hS ?_
      case h4x5cr => exact (fun w1 hw => ex_index (vx := .pointer (some ⟨w.heap.size, 4, none⟩)) (vy := .int .i64 (k : Int)) rfl rfl rfl (index2 _ _ hk2 _))
      try simp only [Act.put, List.setIfInBounds_toArray, List.set_cons_zero, List.set_cons_succ]
      refine H.tk (i := 5) (v := ?v5x6cr) ?h5x6cr hS ?_
      case h5x6cr => (intro w hw; have c : _ = some (Value.string (c.nx k)) := nx_at hw.s0 hk2; go_simp; first | done | (with_reducible rfl))
      try simp only [Act.put, List.setIfInBounds_toArray, List.set_cons_zero, List.set_cons_succ]
      refine H.tk (i := 6) (v := ?v6x7cr) ?h6x7cr hS ?_
      case h6x7cr => (intro w hw; go_simp; first | done | (with_reducible rfl))
      try simp only [Act.put, List.setIfInBounds_toArray, List.set_cons_zero, List.set_cons_succ]
      refine wpAnyH_done (by kernel_rfl) ?_ _
      have D := Lib.hid hS
      go_upto_region 13 with fail
      clear hS
      have HY := Lib.hid (show wayP c m = ([], c, 0) by rw [HY.out] <;> rfl)
      have R0 := Lib.hid (show Bk 44 V.drew (w.heap.size + 1 + 1) Kx.zero.cells from R0.out)
      have HB := Lib.hid (show Below w.heap.size w V.drew from D.out.bel.drew)
      refine wp_region_held_drew (S := fun X => Bk 44 X w.heap.size (Kx.cells c)) (by kernel_rfl) (D.out.s0) (fun hS => ?_)
      clear D
      generalize V.drew = Z0 at *
      refine H.tk (i := 0) (v := .slice none 0 0) ?h0x1cf hS ?_
      case h0x1cf => exact (fun w hw => by go_simp)
      try simp only [Act.put, List.setIfInBounds_toArray, List.set_cons_zero, List.set_cons_succ]
      refine H.tk (i := 1) (v := .agg (Kx.cells c)) ?h1x2cf hS ?_
      case h1x2cf => exact (fun w hw => run_loadK shX (x := .tmp 2) rfl rfl hw rfl)
      try simp only [Act.put, List.setIfInBounds_toArray, List.set_cons_zero, List.set_cons_succ]
      refine H.tk (i := 2) (v := ?v2x3cf) ?h2x3cf hS ?_
      case h2x3cf => (intro w hw; go_simp; first | done | (with_reducible rfl))
      try simp only [Act.put, List.setIfInBounds_toArray, List.set_cons_zero, List.set_cons_succ]
      refine H.one (i := 3) (by simp only [List.getElem?_toArray, List.getElem?_cons_succ, List.getElem?_cons_zero]; rfl) (by kernel_rfl) (by kernel_rfl) (fun K hK => ?_)
      refine wp_store_row 44 _ _ rfl (w.heap.size + 1 + 1) (Kx.cells c) rfl rfl 44 Kx.zero.cells R0.out infoX rfl (oneX _) ?_
      refine hK.out _ _ (hS.row (by omega) _) ?_
      clear hK K
      have hS := (show Bk 44 (Z0.setRow (w.heap.size + 1 + 1) (Kx.cells c)) w.heap.size (Kx.cells c) from hS.row (by omega) _)
      try simp only [Act.put]
      refine H.tk (i := 4) (v := (Value.int IntKind.i64 0)) (fun w _ => rfl) hS ?_
      try simp only [Act.put, List.setIfInBounds_toArray, List.set_cons_zero, List.set_cons_succ]
      refine wpAnyH_done (by kernel_rfl) ?_ _
      go_wp2_with fail
      exact bodyPost_ret (v := .tuple #[.slice none 0 0, .agg (Kx.cells c), .int .i64 0]) (results_mid (ty := 44) rfl _ _ (w.heap.size + 1 + 1) (.agg (Kx.cells c)) (.slice none 0 0) rfl rfl (loadVarK shX (R0.out.put (Kx.cells c)) rfl) (.int .i64 0) rfl) rfl (AnsW.no HY.out (Box.below_setRow HB.out (by omega) _))
    · rw [decide_eq_false hz] at nm1 nm2
      rw [decide_eq_true hi] at qi
      rw [decide_eq_false hn] at qn
      rw [if_pos hi, if_neg hn] at hwp
      rw [show ({ c with id := m.id } : Kx) = c by rw [hi]] at hwp
      have P3 := Lib.hid (fun V => hop_any m.next V (by rcases hnn with e | e; exact absurd e hn; exact e.1))
      rw [show elB ([] ++ [(hopD m.next, 7)]) = [⟨(enc1 (hopD m.next, 7)).toArray⟩] from rfl] at hwp
      have HY := Lib.hid hwp
      clear hwp hnn hss hbo hz hi hn
      generalize (⟨(enc1 (hopD m.next, 7)).toArray⟩ : ByteArray) = x2 at *
      go_enter Tryz.func105, Tryz.ntmps105
      go_upto_region 1 with fail
      change Code.wp _ _ _ _ (((w.alloc (.cells c.cells 44)).alloc (.cells m.cells 38)).alloc (.cells Kx.zero.cells 44))
      have D := Lib.hid ((Us.start w c m hm).call (balloc (Below.refl _ _) (.cells Kx.zero.cells 44)))
      have R0 := Lib.hid (res_new w c m)
      clear hm
      generalize ((w.alloc (.cells c.cells 44)).alloc (.cells m.cells 38)).alloc (.cells Kx.zero.cells 44) = V at *
      have c5 := D.out.m0.cs.c5
      have c9 := D.out.m0.cs.c9
      have c10 := D.out.m0.cs.c10
      have c11 := D.out.m0.cs.c11
      have n0 := nx_at D.out.s0 hk2
      have i0 := D.out.s0.cell 6 (.string c.id) rfl
      have HL := Lib.hid (Lst.nil (w.heap.size + 1 + 1 + 1) V)
      go_wp2_with fail
      refine (P1.out _).mono ?_
      rintro r _ ⟨rfl, rfl⟩
      go_upto_region 7 with (first | (refine st_yes (v := .pointer (some ⟨w.heap.size, 4 + k, none⟩)) (by rfl) rfl (ex_index rfl rfl rfl (index2 w.heap.size k hk2 _)) ?_))
      clear nm1 nm2 nc1 nc2 e10 c5 c10
      go_upto_region 10 with fail
      clear c9 c11 n0 i0 qi
      have R0 := Lib.hid (show Bk 44 V.drew (w.heap.size + 1 + 1) Kx.zero.cells from R0.out)
      have HL := Lib.hid (HL.out.below (Below.refl _ V).drew)
      refine wp_region_held_drew (S := fun W => Us w (c) m W) (by kernel_rfl) D.out.drew (fun hS => ?_)
      clear D
      generalize V.drew = V at *
      refine H.tk (i := 0) (v := ?v0x1dr) ?h0x1dr hS ?_
      case h0x1dr => (intro w hw; go_simp; first | done | (with_reducible rfl))
      try simp only [Act.put, List.setIfInBounds_toArray, List.set_cons_zero, List.set_cons_succ]
      refine H.tk (i := 1) (v := ?v1x2dr) ?h1x2dr hS ?_
      case h1x2dr => (intro w hw; have c := (hw.m0).cs.c9; go_simp; first | done | (with_reducible rfl))
      try simp only [Act.put, List.setIfInBounds_toArray, List.set_cons_zero, List.set_cons_succ]
      refine H.tk (i := 2) (v := ?v2x3dr) ?h2x3dr hS ?_
      case h2x3dr => (intro w hw; go_simp; first | done | (with_reducible rfl))
      try simp only [Act.put, List.setIfInBounds_toArray, List.set_cons_zero, List.set_cons_succ]
      refine H.tk (i := 3) (v := ?v3x4dr) ?h3x4dr hS ?_
      case h3x4dr => (intro w hw; go_simp; first | done | (with_reducible rfl))
      try simp only [Act.put, List.setIfInBounds_toArray, List.set_cons_zero, List.set_cons_succ]
      refine H.tk (i := 4) (v := .pointer (some ⟨w.heap.size, 4 + k, none⟩)) ?h4x5dr hS ?_
      case h4x5dr => exact (fun w1 hw => ex_index (vx := .pointer (some ⟨w.heap.size, 4, none⟩)) (vy := .int .i64 (k : Int)) rfl rfl rfl (index2 _ _ hk2 _))
      try simp only [Act.put, List.setIfInBounds_toArray, List.set_cons_zero, List.set_cons_succ]
      refine H.tk (i := 5) (v := ?v5x6dr) ?h5x6dr hS ?_
      case h5x6dr => (intro w hw; have c : _ = some (Value.string (c.nx k)) := nx_at hw.s0 hk2; go_simp; first | done | (with_reducible rfl))
      try simp only [Act.put, List.setIfInBounds_toArray, List.set_cons_zero, List.set_cons_succ]
      refine H.tk (i := 6) (v := ?v6x7dr) ?h6x7dr hS ?_
      case h6x7dr => (intro w hw; go_simp; first | done | (with_reducible rfl))
      try simp only [Act.put, List.setIfInBounds_toArray, List.set_cons_zero, List.set_cons_succ]
      refine wpAnyH_done (by kernel_rfl) ?_ _
      have D := Lib.hid hS
      have c9 := hS.m0.cs.c9
      go_wp2_with fail
      clear hS
      clear c9 qn
      refine (P3.out _).mono ?_
      rintro r w1 ⟨rfl, hb⟩
      have D := Lib.hid (D.out.call hb)
      have R0 := Lib.hid (R0.out.below hb)
      have HL := Lib.hid (HL.out.below hb)
      clear hb
      have bel := balloc (Below.refl w1.heap.size w1) (.cells #[.string x2] 9)
      have D := Lib.hid (D.out.call bel)
      have R0 := Lib.hid (R0.out.below bel)
      have HL := Lib.hid (HL.out.below bel)
      have hzz := D.out.bel.size
      have hz3 := R0.out.lt
      go_upto_region 12 with (first | (refine bs_one rfl _ rfl (s := x2) rfl ?_) | (at_builtin; refine app_one rfl _ _ rfl (w.heap.size + 1 + 1 + 1) _ [] x2 w1.heap.size 1 rfl HL.out rfl (cells_new x2 w1) ?cl12 ?cb12 ?_))
      case cl12 => exact Nat.zero_le _
      case cb12 => omega
      intro v' w2 hl hb hz
      have D := Lib.hid (D.out.under hb (by omega))
      have R0 := Lib.hid (R0.out.under hb (by omega))
      obtain ⟨ls, hls⟩ : ∃ l, l = [x2] := ⟨_, rfl⟩
      rw [← hls] at hl
      have HQ2 := Lib.hid hls
      obtain ⟨qa, qk, rfl⟩ := hl.slice
      have HL := Lib.hid hl
      clear hl hb hz bel hls hzz hz3
      have c9 := D.out.m0.cs.c9
      have d := nx_at D.out.s0 hk2
      have fd := D.out.s0.frozen (4 + k)
      go_upto_region 13 with (first | (refine st_yes (v := .pointer (some ⟨w.heap.size, 4 + k, none⟩)) (by rfl) rfl (ex_index rfl rfl rfl (index2 w.heap.size k hk2 _)) ?_))
      clear c9 d fd
      have D := Lib.hid (D.out.set (c' := (c : Kx).setN k m.next) (k := 4 + k) (v := .string m.next) (setN_cs _ _ hk2))
      have R0 := Lib.hid (R0.out.off (p := ⟨w.heap.size, 4 + k, none⟩) (by show w.heap.size + 1 + 1 ≠ w.heap.size; omega) (.string m.next))
      have HL := Lib.hid (HL.out.cellset (p := ⟨w.heap.size, 4 + k, none⟩) (by show w.heap.size < _; omega) (.string m.next))
      generalize w2.setCell ⟨w.heap.size, 4 + k, none⟩ (.string m.next) = V at *
      have HY := Lib.hid (show wayP c m = (ls, (c : Kx).setN k m.next, 0) by rw [HY.out, HQ2.out] <;> rfl)
      have R0 := Lib.hid (show Bk 44 V.drew (w.heap.size + 1 + 1) Kx.zero.cells from R0.out)
      have HB := Lib.hid (show Below w.heap.size w V.drew from D.out.bel.drew)
      have HL := Lib.hid (HL.out.below (Below.refl _ V).drew)
      refine wp_region_held_drew (S := fun X => Bk 44 X w.heap.size (Kx.cells ((c : Kx).setN k m.next))) (by kernel_rfl) (D.out.s0) (fun hS => ?_)
      clear D
      generalize V.drew = Z0 at *
      refine H.tk (i := 0) (v := .slice qa ls.length qk) ?h0x1df hS ?_
      case h0x1df => exact (fun w hw => by go_simp)
      try simp only [Act.put, List.setIfInBounds_toArray, List.set_cons_zero, List.set_cons_succ]
      refine H.tk (i := 1) (v := .agg (Kx.cells ((c : Kx).setN k m.next))) ?h1x2df hS ?_
      case h1x2df => exact (fun w hw => run_loadK shX (x := .tmp 2) rfl rfl hw rfl)
      try simp only [Act.put, List.setIfInBounds_toArray, List.set_cons_zero, List.set_cons_succ]
      refine H.tk (i := 2) (v := ?v2x3df) ?h2x3df hS ?_
      case h2x3df => (intro w hw; go_simp; first | done | (with_reducible rfl))
      try simp only [Act.put, List.setIfInBounds_toArray, List.set_cons_zero, List.set_cons_succ]
      refine H.one (i := 3) (by simp only [List.getElem?_toArray, List.getElem?_cons_succ, List.getElem?_cons_zero]; rfl) (by kernel_rfl) (by kernel_rfl) (fun K hK => ?_)
      refine wp_store_row 44 _ _ rfl (w.heap.size + 1 + 1) (Kx.cells ((c : Kx).setN k m.next)) rfl rfl 44 Kx.zero.cells R0.out infoX rfl (oneX _) ?_
      refine hK.out _ _ (hS.row (by omega) _) ?_
      clear hK K
      have hS := (show Bk 44 (Z0.setRow (w.heap.size + 1 + 1) (Kx.cells ((c : Kx).setN k m.next))) w.heap.size (Kx.cells ((c : Kx).setN k m.next)) from hS.row (by omega) _)
      try simp only [Act.put]
      refine H.tk (i := 4) (v := (Value.int IntKind.i64 0)) (fun w _ => rfl) hS ?_
      try simp only [Act.put, List.setIfInBounds_toArray, List.set_cons_zero, List.set_cons_succ]
      refine wpAnyH_done (by kernel_rfl) ?_ _
      go_wp2_with fail
      exact bodyPost_ret (v := .tuple #[.slice qa ls.length qk, .agg (Kx.cells ((c : Kx).setN k m.next)), .int .i64 0]) (results_mid (ty := 44) rfl _ _ (w.heap.size + 1 + 1) (.agg (Kx.cells ((c : Kx).setN k m.next))) (.slice qa ls.length qk) rfl rfl (loadVarK shX (R0.out.put (Kx.cells ((c : Kx).setN k m.next))) rfl) (.int .i64 0) rfl) rfl (by rw [HY.out]; exact ⟨qa, qk, rfl, (HL.out.under (by omega) _).mono (by omega), Box.below_setRow HB.out (by omega) _⟩)
  · by_cases hn : m.next = c.nx k
    · rw [decide_eq_false hz] at nm1 nm2
      rw [decide_eq_false hi] at qi
      rw [decide_eq_true hn] at qn
      rw [if_neg hi, if_pos hn] at hwp
      rw [hss hn] at hwp
      rw [show elB ([(idD m.id, 6)] ++ []) = [⟨(enc1 (idD m.id, 6)).toArray⟩] from rfl] at hwp
      have HY := Lib.hid hwp
      clear hwp hnn hss hbo hz hi hn
      generalize (⟨(enc1 (idD m.id, 6)).toArray⟩ : ByteArray) = x1 at *
      go_enter Tryz.func105, Tryz.ntmps105
      go_upto_region 1 with fail
      change Code.wp _ _ _ _ (((w.alloc (.cells c.cells 44)).alloc (.cells m.cells 38)).alloc (.cells Kx.zero.cells 44))
      have D := Lib.hid ((Us.start w c m hm).call (balloc (Below.refl _ _) (.cells Kx.zero.cells 44)))
      have R0 := Lib.hid (res_new w c m)
      clear hm
      generalize ((w.alloc (.cells c.cells 44)).alloc (.cells m.cells 38)).alloc (.cells Kx.zero.cells 44) = V at *
      have c5 := D.out.m0.cs.c5
      have c9 := D.out.m0.cs.c9
      have c10 := D.out.m0.cs.c10
      have c11 := D.out.m0.cs.c11
      have n0 := nx_at D.out.s0 hk2
      have i0 := D.out.s0.cell 6 (.string c.id) rfl
      have HL := Lib.hid (Lst.nil (w.heap.size + 1 + 1 + 1) V)
      go_wp2_with fail
      refine (P1.out _).mono ?_
      rintro r _ ⟨rfl, rfl⟩
      go_upto_region 7 with (first | (refine st_yes (v := .pointer (some ⟨w.heap.size, 4 + k, none⟩)) (by rfl) rfl (ex_index rfl rfl rfl (index2 w.heap.size k hk2 _)) ?_))
      clear nm1 nm2 nc1 nc2 e10 c5 c10
      go_wp2_with fail
      clear c9 c11 n0 i0 qi
      refine (P2.out _).mono ?_
      rintro r w1 ⟨rfl, hb⟩
      have D := Lib.hid (D.out.call hb)
      have R0 := Lib.hid (R0.out.below hb)
      have HL := Lib.hid (HL.out.below hb)
      clear hb
      have bel := balloc (Below.refl w1.heap.size w1) (.cells #[.string x1] 9)
      have D := Lib.hid (D.out.call bel)
      have R0 := Lib.hid (R0.out.below bel)
      have HL := Lib.hid (HL.out.below bel)
      have hzz := D.out.bel.size
      have hz3 := R0.out.lt
      go_upto_region 9 with (first | (refine bs_one rfl _ rfl (s := x1) rfl ?_) | (at_builtin; refine app_one rfl _ _ rfl (w.heap.size + 1 + 1 + 1) _ [] x1 w1.heap.size 1 rfl HL.out rfl (cells_new x1 w1) ?cl9 ?cb9 ?_))
      case cl9 => exact Nat.zero_le _
      case cb9 => omega
      intro v' w2 hl hb hz
      have D := Lib.hid (D.out.under hb (by omega))
      have R0 := Lib.hid (R0.out.under hb (by omega))
      obtain ⟨ls, hls⟩ : ∃ l, l = [x1] := ⟨_, rfl⟩
      rw [← hls] at hl
      have HQ1 := Lib.hid hls
      obtain ⟨qa, qk, rfl⟩ := hl.slice
      have HL := Lib.hid hl
      clear hl hb hz bel hls hzz hz3
      have c11 := D.out.m0.cs.c11
      have d := D.out.s0.cell 6 (.string c.id) rfl
      have fd := D.out.s0.frozen 6
      go_upto_region 10 with fail
      clear c11 d fd
      have D := Lib.hid (D.out.set (c' := { c with id := m.id }) (k := 6) (v := .string m.id) rfl)
      have R0 := Lib.hid (R0.out.off (p := ⟨w.heap.size, 6, none⟩) (by show w.heap.size + 1 + 1 ≠ w.heap.size; omega) (.string m.id))
      have HL := Lib.hid (HL.out.cellset (p := ⟨w.heap.size, 6, none⟩) (by show w.heap.size < _; omega) (.string m.id))
      generalize w2.setCell ⟨w.heap.size, 6, none⟩ (.string m.id) = V at *
      have R0 := Lib.hid (show Bk 44 V.drew (w.heap.size + 1 + 1) Kx.zero.cells from R0.out)
      have HL := Lib.hid (HL.out.below (Below.refl _ V).drew)
      refine wp_region_held_drew (S := fun W => Us w ({ c with id := m.id }) m W) (by kernel_rfl) D.out.drew (fun hS => ?_)
      clear D
      generalize V.drew = V at *
      refine H.tk (i := 0) (v := ?v0x1er) ?h0x1er hS ?_
      case h0x1er => (intro w hw; go_simp; first | done | (with_reducible rfl))
      try simp only [Act.put, List.setIfInBounds_toArray, List.set_cons_zero, List.set_cons_succ]
      refine H.tk (i := 1) (v := ?v1x2er) ?h1x2er hS ?_
      case h1x2er => (intro w hw; have c := (hw.m0).cs.c9; go_simp; first | done | (with_reducible rfl))
      try simp only [Act.put, List.setIfInBounds_toArray, List.set_cons_zero, List.set_cons_succ]
      refine H.tk (i := 2) (v := ?v2x3er) ?h2x3er hS ?_
      case h2x3er => (intro w hw; go_simp; first | done | (with_reducible rfl))
      try simp only [Act.put, List.setIfInBounds_toArray, List.set_cons_zero, List.set_cons_succ]
      refine H.tk (i := 3) (v := ?v3x4er) ?h3x4er hS ?_
      case h3x4er => (intro w hw; go_simp; first | done | (with_reducible rfl))
      try simp only [Act.put, List.setIfInBounds_toArray, List.set_cons_zero, List.set_cons_succ]
      refine H.tk (i := 4) (v := .pointer (some ⟨w.heap.size, 4 + k, none⟩)) ?h4x5er hS ?_
      case h4x5er => exact (fun w1 hw => ex_index (vx := .pointer (some ⟨w.heap.size, 4, none⟩)) (vy := .int .i64 (k : Int)) rfl rfl rfl (index2 _ _ hk2 _))
      try simp only [Act.put, List.setIfInBounds_toArray, List.set_cons_zero, List.set_cons_succ]
      refine H.tk (i := 5) (v := ?v5x6er) ?h5x6er hS ?_
      case h5x6er => (intro w hw; have c : _ = some (Value.string (c.nx k)) := nx_at hw.s0 hk2; go_simp; first | done | (with_reducible rfl))
      try simp only [Act.put, List.setIfInBounds_toArray, List.set_cons_zero, List.set_cons_succ]
      refine H.tk (i := 6) (v := ?v6x7er) ?h6x7er hS ?_
      case h6x7er => (intro w hw; go_simp; first | done | (with_reducible rfl))
      try simp only [Act.put, List.setIfInBounds_toArray, List.set_cons_zero, List.set_cons_succ]
      refine wpAnyH_done (by kernel_rfl) ?_ _
      have D := Lib.hid hS
      go_upto_region 13 with fail
      clear hS
      have HY := Lib.hid (show wayP c m = (ls, { c with id := m.id }, 0) by rw [HY.out, HQ1.out] <;> rfl)
      have R0 := Lib.hid (show Bk 44 V.drew (w.heap.size + 1 + 1) Kx.zero.cells from R0.out)
      have HB := Lib.hid (show Below w.heap.size w V.drew from D.out.bel.drew)
      have HL := Lib.hid (HL.out.below (Below.refl _ V).drew)
      refine wp_region_held_drew (S := fun X => Bk 44 X w.heap.size (Kx.cells ({ c with id := m.id }))) (by kernel_rfl) (D.out.s0) (fun hS => ?_)
      clear D
      generalize V.drew = Z0 at *
      refine H.tk (i := 0) (v := .slice qa ls.length qk) ?h0x1ef hS ?_
      case h0x1ef => exact (fun w hw => by go_simp)
      try simp only [Act.put, List.setIfInBounds_toArray, List.set_cons_zero, List.set_cons_succ]
      refine H.tk (i := 1) (v := .agg (Kx.cells ({ c with id := m.id }))) ?h1x2ef hS ?_
      case h1x2ef => exact (fun w hw => run_loadK shX (x := .tmp 2) rfl rfl hw rfl)
      try simp only [Act.put, List.setIfInBounds_toArray, List.set_cons_zero, List.set_cons_succ]
      refine H.tk (i := 2) (v := ?v2x3ef) ?h2x3ef hS ?_
      case h2x3ef => (intro w hw; go_simp; first | done | (with_reducible rfl))
      try simp only [Act.put, List.setIfInBounds_toArray, List.set_cons_zero, List.set_cons_succ]
      refine H.one (i := 3) (by simp only [List.getElem?_toArray, List.getElem?_cons_succ, List.getElem?_cons_zero]; rfl) (by kernel_rfl) (by kernel_rfl) (fun K hK => ?_)
      refine wp_store_row 44 _ _ rfl (w.heap.size + 1 + 1) (Kx.cells ({ c with id := m.id })) rfl rfl 44 Kx.zero.cells R0.out infoX rfl (oneX _) ?_
      refine hK.out _ _ (hS.row (by omega) _) ?_
      clear hK K
      have hS := (show Bk 44 (Z0.setRow (w.heap.size + 1 + 1) (Kx.cells ({ c with id := m.id }))) w.heap.size (Kx.cells ({ c with id := m.id })) from hS.row (by omega) _)
      try simp only [Act.put]
      refine H.tk (i := 4) (v := (Value.int IntKind.i64 0)) (fun w _ => rfl) hS ?_
      try simp only [Act.put, List.setIfInBounds_toArray, List.set_cons_zero, List.set_cons_succ]
      refine wpAnyH_done (by kernel_rfl) ?_ _
      go_wp2_with fail
      exact bodyPost_ret (v := .tuple #[.slice qa ls.length qk, .agg (Kx.cells ({ c with id := m.id })), .int .i64 0]) (results_mid (ty := 44) rfl _ _ (w.heap.size + 1 + 1) (.agg (Kx.cells ({ c with id := m.id }))) (.slice qa ls.length qk) rfl rfl (loadVarK shX (R0.out.put (Kx.cells ({ c with id := m.id }))) rfl) (.int .i64 0) rfl) rfl (by rw [HY.out]; exact ⟨qa, qk, rfl, (HL.out.under (by omega) _).mono (by omega), Box.below_setRow HB.out (by omega) _⟩)
    · rw [decide_eq_false hz] at nm1 nm2
      rw [decide_eq_false hi] at qi
      rw [decide_eq_false hn] at qn
      rw [if_neg hi, if_neg hn] at hwp
      have P3 := Lib.hid (fun V => hop_any m.next V (by rcases hnn with e | e; exact absurd e hn; exact e.1))
      rw [show elB ([(idD m.id, 6)] ++ [(hopD m.next, 7)]) = [⟨(enc1 (idD m.id, 6)).toArray⟩, ⟨(enc1 (hopD m.next, 7)).toArray⟩] from rfl] at hwp
      have HY := Lib.hid hwp
      clear hwp hnn hss hbo hz hi hn
      generalize (⟨(enc1 (idD m.id, 6)).toArray⟩ : ByteArray) = x1 at *
      generalize (⟨(enc1 (hopD m.next, 7)).toArray⟩ : ByteArray) = x2 at *
      go_enter Tryz.func105, Tryz.ntmps105
      go_upto_region 1 with fail
      change Code.wp _ _ _ _ (((w.alloc (.cells c.cells 44)).alloc (.cells m.cells 38)).alloc (.cells Kx.zero.cells 44))
      have D := Lib.hid ((Us.start w c m hm).call (balloc (Below.refl _ _) (.cells Kx.zero.cells 44)))
      have R0 := Lib.hid (res_new w c m)
      clear hm
      generalize ((w.alloc (.cells c.cells 44)).alloc (.cells m.cells 38)).alloc (.cells Kx.zero.cells 44) = V at *
      have c5 := D.out.m0.cs.c5
      have c9 := D.out.m0.cs.c9
      have c10 := D.out.m0.cs.c10
      have c11 := D.out.m0.cs.c11
      have n0 := nx_at D.out.s0 hk2
      have i0 := D.out.s0.cell 6 (.string c.id) rfl
      have HL := Lib.hid (Lst.nil (w.heap.size + 1 + 1 + 1) V)
      go_wp2_with fail
      refine (P1.out _).mono ?_
      rintro r _ ⟨rfl, rfl⟩
      go_upto_region 7 with (first | (refine st_yes (v := .pointer (some ⟨w.heap.size, 4 + k, none⟩)) (by rfl) rfl (ex_index rfl rfl rfl (index2 w.heap.size k hk2 _)) ?_))
      clear nm1 nm2 nc1 nc2 e10 c5 c10
      go_wp2_with fail
      clear c9 c11 n0 i0 qi
      refine (P2.out _).mono ?_
      rintro r w1 ⟨rfl, hb⟩
      have D := Lib.hid (D.out.call hb)
      have R0 := Lib.hid (R0.out.below hb)
      have HL := Lib.hid (HL.out.below hb)
      clear hb
      have bel := balloc (Below.refl w1.heap.size w1) (.cells #[.string x1] 9)
      have D := Lib.hid (D.out.call bel)
      have R0 := Lib.hid (R0.out.below bel)
      have HL := Lib.hid (HL.out.below bel)
      have hzz := D.out.bel.size
      have hz3 := R0.out.lt
      go_upto_region 9 with (first | (refine bs_one rfl _ rfl (s := x1) rfl ?_) | (at_builtin; refine app_one rfl _ _ rfl (w.heap.size + 1 + 1 + 1) _ [] x1 w1.heap.size 1 rfl HL.out rfl (cells_new x1 w1) ?cl9 ?cb9 ?_))
      case cl9 => exact Nat.zero_le _
      case cb9 => omega
      intro v' w2 hl hb hz
      have D := Lib.hid (D.out.under hb (by omega))
      have R0 := Lib.hid (R0.out.under hb (by omega))
      obtain ⟨ls1, hls⟩ : ∃ l, l = [x1] := ⟨_, rfl⟩
      rw [← hls] at hl
      have HQ1 := Lib.hid hls
      obtain ⟨qa, qk, rfl⟩ := hl.slice
      have HL := Lib.hid hl
      clear hl hb hz bel hls hzz hz3
      have c11 := D.out.m0.cs.c11
      have d := D.out.s0.cell 6 (.string c.id) rfl
      have fd := D.out.s0.frozen 6
      go_upto_region 10 with fail
      clear c11 d fd
      have D := Lib.hid (D.out.set (c' := { c with id := m.id }) (k := 6) (v := .string m.id) rfl)
      have R0 := Lib.hid (R0.out.off (p := ⟨w.heap.size, 6, none⟩) (by show w.heap.size + 1 + 1 ≠ w.heap.size; omega) (.string m.id))
      have HL := Lib.hid (HL.out.cellset (p := ⟨w.heap.size, 6, none⟩) (by show w.heap.size < _; omega) (.string m.id))
      generalize w2.setCell ⟨w.heap.size, 6, none⟩ (.string m.id) = V at *
      have R0 := Lib.hid (show Bk 44 V.drew (w.heap.size + 1 + 1) Kx.zero.cells from R0.out)
      have HL := Lib.hid (HL.out.below (Below.refl _ V).drew)
      refine wp_region_held_drew (S := fun W => Us w ({ c with id := m.id }) m W) (by kernel_rfl) D.out.drew (fun hS => ?_)
      clear D
      generalize V.drew = V at *
      refine H.tk (i := 0) (v := ?v0x1gr) ?h0x1gr hS ?_
      case h0x1gr => (intro w hw; go_simp; first | done | (with_reducible rfl))
      try simp only [Act.put, List.setIfInBounds_toArray, List.set_cons_zero, List.set_cons_succ]
      refine H.tk (i := 1) (v := ?v1x2gr) ?h1x2gr hS ?_
      case h1x2gr => (intro w hw; have c := (hw.m0).cs.c9; go_simp; first | done | (with_reducible rfl))
      try simp only [Act.put, List.setIfInBounds_toArray, List.set_cons_zero, List.set_cons_succ]
      refine H.tk (i := 2) (v := ?v2x3gr) ?h2x3gr hS ?_
      case h2x3gr => (intro w hw; go_simp; first | done | (with_reducible rfl))
      try simp only [Act.put, List.setIfInBounds_toArray, List.set_cons_zero, List.set_cons_succ]
      refine H.tk (i := 3) (v := ?v3x4gr) ?h3x4gr hS ?_
      case h3x4gr => (intro w hw; go_simp; first | done | (with_reducible rfl))
      try simp only [Act.put, List.setIfInBounds_toArray, List.set_cons_zero, List.set_cons_succ]
      refine H.tk (i := 4) (v := .pointer (some ⟨w.heap.size, 4 + k, none⟩)) ?h4x5gr hS ?_
      case h4x5gr => exact (fun w1 hw => ex_index (vx := .pointer (some ⟨w.heap.size, 4, none⟩)) (vy := .int .i64 (k : Int)) rfl rfl rfl (index2 _ _ hk2 _))
      try simp only [Act.put, List.setIfInBounds_toArray, List.set_cons_zero, List.set_cons_succ]
      refine H.tk (i := 5) (v := ?v5x6gr) ?h5x6gr hS ?_
      case h5x6gr => (intro w hw; have c : _ = some (Value.string (c.nx k)) := nx_at hw.s0 hk2; go_simp; first | done | (with_reducible rfl))
      try simp only [Act.put, List.setIfInBounds_toArray, List.set_cons_zero, List.set_cons_succ]
      refine H.tk (i := 6) (v := ?v6x7gr) ?h6x7gr hS ?_
      case h6x7gr => (intro w hw; go_simp; first | done | (with_reducible rfl))
      try simp only [Act.put, List.setIfInBounds_toArray, List.set_cons_zero, List.set_cons_succ]
      refine wpAnyH_done (by kernel_rfl) ?_ _
      have D := Lib.hid hS
      have c9 := hS.m0.cs.c9
      go_wp2_with fail
      clear hS
      clear c9 qn
      refine (P3.out _).mono ?_
      rintro r w1 ⟨rfl, hb⟩
      have D := Lib.hid (D.out.call hb)
      have R0 := Lib.hid (R0.out.below hb)
      have HL := Lib.hid (HL.out.below hb)
      clear hb
      have bel := balloc (Below.refl w1.heap.size w1) (.cells #[.string x2] 9)
      have D := Lib.hid (D.out.call bel)
      have R0 := Lib.hid (R0.out.below bel)
      have HL := Lib.hid (HL.out.below bel)
      have hzz := D.out.bel.size
      have hz3 := R0.out.lt
      go_upto_region 12 with (first | (refine bs_one rfl _ rfl (s := x2) rfl ?_) | (at_builtin; refine app_one rfl _ _ rfl (w.heap.size + 1 + 1 + 1) _ ls1 x2 w1.heap.size 1 rfl HL.out rfl (cells_new x2 w1) ?cl12 ?cb12 ?_))
      case cl12 => (rw [HQ1.out]; exact (by decide : 1 ≤ 100000))
      case cb12 => omega
      intro v' w2 hl hb hz
      have D := Lib.hid (D.out.under hb (by omega))
      have R0 := Lib.hid (R0.out.under hb (by omega))
      obtain ⟨ls, hls⟩ : ∃ l, l = ls1 ++ [x2] := ⟨_, rfl⟩
      rw [← hls] at hl
      have HQ2 := Lib.hid hls
      obtain ⟨qa, qk, rfl⟩ := hl.slice
      have HL := Lib.hid hl
      clear hl hb hz bel hls hzz hz3
      have c9 := D.out.m0.cs.c9
      have d := nx_at D.out.s0 hk2
      have fd := D.out.s0.frozen (4 + k)
      go_upto_region 13 with (first | (refine st_yes (v := .pointer (some ⟨w.heap.size, 4 + k, none⟩)) (by rfl) rfl (ex_index rfl rfl rfl (index2 w.heap.size k hk2 _)) ?_))
      clear c9 d fd
      have D := Lib.hid (D.out.set (c' := ({ c with id := m.id } : Kx).setN k m.next) (k := 4 + k) (v := .string m.next) (setN_cs _ _ hk2))
      have R0 := Lib.hid (R0.out.off (p := ⟨w.heap.size, 4 + k, none⟩) (by show w.heap.size + 1 + 1 ≠ w.heap.size; omega) (.string m.next))
      have HL := Lib.hid (HL.out.cellset (p := ⟨w.heap.size, 4 + k, none⟩) (by show w.heap.size < _; omega) (.string m.next))
      generalize w2.setCell ⟨w.heap.size, 4 + k, none⟩ (.string m.next) = V at *
      have HY := Lib.hid (show wayP c m = (ls, ({ c with id := m.id } : Kx).setN k m.next, 0) by rw [HY.out, HQ2.out, HQ1.out] <;> rfl)
      have R0 := Lib.hid (show Bk 44 V.drew (w.heap.size + 1 + 1) Kx.zero.cells from R0.out)
      have HB := Lib.hid (show Below w.heap.size w V.drew from D.out.bel.drew)
      have HL := Lib.hid (HL.out.below (Below.refl _ V).drew)
      refine wp_region_held_drew (S := fun X => Bk 44 X w.heap.size (Kx.cells (({ c with id := m.id } : Kx).setN k m.next))) (by kernel_rfl) (D.out.s0) (fun hS => ?_)
      clear D
      generalize V.drew = Z0 at *
      refine H.tk (i := 0) (v := .slice qa ls.length qk) ?h0x1gf hS ?_
      case h0x1gf => exact (fun w hw => by go_simp)
      try simp only [Act.put, List.setIfInBounds_toArray, List.set_cons_zero, List.set_cons_succ]
      refine H.tk (i := 1) (v := .agg (Kx.cells (({ c with id := m.id } : Kx).setN k m.next))) ?h1x2gf hS ?_
      case h1x2gf => exact (fun w hw => run_loadK shX (x := .tmp 2) rfl rfl hw rfl)
      try simp only [Act.put, List.setIfInBounds_toArray, List.set_cons_zero, List.set_cons_succ]
      refine H.tk (i := 2) (v := ?v2x3gf) ?h2x3gf hS ?_
      case h2x3gf => (intro w hw; go_simp; first | done | (with_reducible rfl))
      try simp only [Act.put, List.setIfInBounds_toArray, List.set_cons_zero, List.set_cons_succ]
      refine H.one (i := 3) (by simp only [List.getElem?_toArray, List.getElem?_cons_succ, List.getElem?_cons_zero]; rfl) (by kernel_rfl) (by kernel_rfl) (fun K hK => ?_)
      refine wp_store_row 44 _ _ rfl (w.heap.size + 1 + 1) (Kx.cells (({ c with id := m.id } : Kx).setN k m.next)) rfl rfl 44 Kx.zero.cells R0.out infoX rfl (oneX _) ?_
      refine hK.out _ _ (hS.row (by omega) _) ?_
      clear hK K
      have hS := (show Bk 44 (Z0.setRow (w.heap.size + 1 + 1) (Kx.cells (({ c with id := m.id } : Kx).setN k m.next))) w.heap.size (Kx.cells (({ c with id := m.id } : Kx).setN k m.next)) from hS.row (by omega) _)
      try simp only [Act.put]
      refine H.tk (i := 4) (v := (Value.int IntKind.i64 0)) (fun w _ => rfl) hS ?_
      try simp only [Act.put, List.setIfInBounds_toArray, List.set_cons_zero, List.set_cons_succ]
      refine wpAnyH_done (by kernel_rfl) ?_ _
      go_wp2_with fail
      exact bodyPost_ret (v := .tuple #[.slice qa ls.length qk, .agg (Kx.cells (({ c with id := m.id } : Kx).setN k m.next)), .int .i64 0]) (results_mid (ty := 44) rfl _ _ (w.heap.size + 1 + 1) (.agg (Kx.cells (({ c with id := m.id } : Kx).setN k m.next))) (.slice qa ls.length qk) rfl rfl (loadVarK shX (R0.out.put (Kx.cells (({ c with id := m.id } : Kx).setN k m.next))) rfl) (.int .i64 0) rfl) rfl (by rw [HY.out]; exact ⟨qa, qk, rfl, (HL.out.under (by omega) _).mono (by omega), Box.below_setRow HB.out (by omega) _⟩)
end Go.Proofs.YtjhfpobjbijcpaaGreatDoor.Lw
