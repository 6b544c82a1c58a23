/-
  A message's plain bytes: the document's Plain and the program's. Conditions: the message's lists stand in the world, and aren't long; the variables have what they are laid with.
-/
import Derived.Test.YtjhfpobjbijcpaaGreatDoorE34
import Derived.Test.YtjhfpobjbijcpaaGreatDoorE42
namespace Go.Proofs.YtjhfpobjbijcpaaGreatDoor.Lp
open Go.ChangeShapes Go.WideShapes Go.ChangeAt Go.RowKit
open Go.Proofs.YtjhfpobjbijcpaaGreatDoor.Ms
open Go.Proofs.YtjhfpobjbijcpaaGreatDoor.Box
open Go.Proofs.YtjhfpobjbijcpaaGreatDoor.An
open Go.Proofs.YtjhfpobjbijcpaaGreatDoor.Tc
open Go.Proofs.YtjhfpobjbijcpaaGreatDoor.Nu (text_eq)
open Go.Proofs.YtjhfpobjbijcpaaGreatDoor.J1
open Go.Proofs.YtjhfpobjbijcpaaGreatDoor.J2 (nil_eq nil_em)
open Go.Proofs.YtjhfpobjbijcpaaGreatDoor.K1
open Go.Proofs.YtjhfpobjbijcpaaGreatDoor.Kb
open Go.Proofs.YtjhfpobjbijcpaaGreatDoor.L1
open Go.Proofs.YtjhfpobjbijcpaaGreatDoor.L2
open Go.Proofs.YtjhfpobjbijcpaaGreatDoor.L8
open Go.Proofs.YtjhfpobjbijcpaaGreatDoor.F1 (enc1 enc1_len encT encT_append encT_cons encT_nil)
open Go.Proofs.YtjhfpobjbijcpaaGreatDoor.F6 (cat_is)
open Go.Proofs.YtjhfpobjbijcpaaGreatDoor.Bk (Bk alloc_size wpList_builtK)
set_option linter.unusedVariables false
set_option maxRecDepth 100000
set_option maxRecDepth 100000
theorem plain_put (m : M) : plainL m = ((putL Kx.zero m).1, decide ((putL Kx.zero m).2.2 = 0)) := by
  unfold plainL putL
  cases okL m
  · rfl
  · rw [if_pos rfl, if_pos rfl, bad_zero, if_neg (by decide)]; rfl
set_option maxHeartbeats 6400000 in
theorem plain_any (m : M) (w : World) (hm : m.In w) (ln : m.sl.length ≤ 2000) (lb : ∀ x ∈ m.sl, x.1.size ≤ 1099511627776) (hp : m.pfx.size ≤ maxLen) (ht : Tab w) : Calls Tryz.prog 20 #[.agg m.cells] w fun e w' => e = .returned (.tuple #[.string (plainL m).1, .bool (plainL m).2]) ∧ Below w.heap.size w w' := by
  have HF := Lib.hid (Fs.new w m hm)
  have HT := Lib.hid ht
  have P1 := Lib.hid (fun V (y : m.In V) (z : Tab V) => Lv.put_any Kx.zero m V y ln lb hp okc_zero z)
  rw [plain_put]
  obtain ⟨s, cf, er, hq⟩ : ∃ a b d, putL Kx.zero m = (a, b, d) := ⟨_, _, _, rfl⟩
  rw [hq] at P1 ⊢
  have P1 := Lib.hid (show ∀ V, m.In V → Tab V → Calls Tryz.prog 28 #[.agg Kx.zero.cells, .agg m.cells] V fun e w' => e = .returned (.tuple #[.string s, .agg cf.cells, .int .i64 er]) ∧ Below V.heap.size V w' from P1.out)
  show Calls _ _ _ _ fun e w' => e = .returned (.tuple #[.string s, .bool (decide (er = 0))]) ∧ Below w.heap.size w w'
  have hd : (er == 0) = decide (er = 0) := by rw [Bool.eq_iff_iff]; simp
  clear hm ln lb hp ht hq
  go_enter Tryz.func20, Tryz.ntmps20
  go_upto_region 1 with fail
  generalize w.alloc (.cells m.cells 38) = V at *
  go_wp2_with (first | (refine wpList_builtK rfl 44 _ rfl Kx.zero.cells (by kernel_rfl) ?_) | (refine wpList_loadM (b := w.heap.size) (m := m) rfl _ rfl rfl HF.out.m ?_))
  refine (P1.out _ HF.out.i (HT.out.below HF.out.bel)).mono ?_
  rintro r w1 ⟨rfl, hb⟩
  have HF := Lib.hid (HF.out.call hb)
  clear hb P1
  go_upto_region 2 with (refine wpList_storeX (b := w1.heap.size) (m := Kx.zero) (m' := cf) rfl _ _ rfl rfl rfl (Bk.Bk.new 44 w1 Kx.zero.cells) ?_)
  change Code.wp _ _ _ _ ((w1.alloc (.cells Kx.zero.cells 44)).setRow w1.heap.size (Kx.cells cf))
  rw [World.setRow_alloc_new]
  have HF := Lib.hid (HF.out.call (balloc (Below.refl w1.heap.size w1) (.cells (Kx.cells cf) 44)))
  generalize w1.alloc (.cells (Kx.cells cf) 44) = V2 at *
  go_wp2
  go_ret2
  exact ⟨by first | rfl | (rw [hd]), HF.out.bel⟩
set_option maxHeartbeats 12800000 in
theorem rplain_any (m : M) (w : World) (hm : m.In w) (ln : m.sl.length ≤ 2000) (lb : ∀ x ∈ m.sl, x.1.size ≤ 1099511627776) (hp : m.pfx.size ≤ maxLen) : Calls Tryz.prog 21 #[.agg m.cells] w fun e w' => e = .returned (.tuple #[.string (plainL m).1, .bool (plainL m).2]) ∧ Below w.heap.size w w' := by
  have HF := Lib.hid (Fs.new w m hm)
  have P1 := Lib.hid (fun V (y : m.In V) => rright_any m V y lb hp)
  cases ho : okL m
  · have HY := Lib.hid (show plainL m = (⟨#[]⟩, false) by unfold plainL; rw [ho]; rfl)
    rw [ho] at P1
    clear ho hm ln lb hp
    go_enter Tryz.func21, Tryz.ntmps21
    go_upto_region 1 with fail
    generalize w.alloc (.cells m.cells 38) = V at *
    go_wp2_with (first | (refine wpList_loadM (b := w.heap.size) (m := m) rfl _ rfl rfl HF.out.m ?_))
    refine (P1.out _ HF.out.i).mono ?_
    rintro r w1 ⟨rfl, hb⟩
    have HF := Lib.hid (HF.out.call hb)
    clear hb P1
    go_wp2
    go_ret2
    exact ⟨by rw [HY.out] <;> rfl, HF.out.bel⟩
  rw [ho] at P1
  by_cases k11 : m.kind = 11
  rotate_left
  · have PO := Lib.hid (fun V (y : m.In V) => rother_any m V y ln lb hp ho k11)
    have HY := Lib.hid (show plainL m = (⟨(enc1 (othE m)).toArray⟩, true) by
      unfold plainL elsL
      rw [ho, if_pos rfl, if_neg k11, encT_cons, encT_nil, List.append_nil])
    generalize (⟨(enc1 (othE m)).toArray⟩ : ByteArray) = x at *
    have e11 : (m.kind == 11) = false := by simpa using k11
    clear ho hm ln lb hp k11
    go_enter Tryz.func21, Tryz.ntmps21
    go_upto_region 1 with fail
    generalize w.alloc (.cells m.cells 38) = V at *
    go_wp2_with (first | (refine wpList_loadM (b := w.heap.size) (m := m) rfl _ rfl rfl HF.out.m ?_))
    refine (P1.out _ HF.out.i).mono ?_
    rintro r w1 ⟨rfl, hb⟩
    have HF := Lib.hid (HF.out.call hb)
    clear hb P1
    have c0 := HF.out.m.cs.c0
    go_wp2_with (first | (refine wpList_loadM (b := w.heap.size) (m := m) rfl _ rfl rfl HF.out.m ?_))
    refine (PO.out _ HF.out.i).mono ?_
    rintro r w2 ⟨rfl, hb⟩
    have HF := Lib.hid (HF.out.call hb)
    clear hb c0 e11
    go_wp2
    go_ret2
    exact ⟨by rw [HY.out] <;> rfl, HF.out.bel⟩
  have hu := ok_u ho k11
  have o := (oku_iff m).1 hu
  obtain ⟨hom, _, _⟩ := om_le (c := Kx.zero) hu
  have hy : plainL m = (⟨(encT (wayE Kx.zero m) ++ enc1 (updD m 0, 8)).toArray⟩, true) := by
    unfold plainL elsL
    rw [ho, if_pos rfl, if_pos k11, om_zero, encT_append, encT_cons, encT_nil, List.append_nil]
  have PU := Lib.hid (show ∀ V, m.In V → Calls Tryz.prog 44 #[.agg m.cells, .int .i64 0] V fun e w' => e = .returned (.string ⟨(enc1 (updD m 0, 8)).toArray⟩) ∧ Below V.heap.size V w' from fun V y => rupdate_any m 0 V y ln lb hu (Nat.zero_le _))
  have hzu := (upd_size hu (Nat.zero_le (countN m.ae m.plen))).2
  have hzx : (⟨(enc1 (updD m 0, 8)).toArray⟩ : ByteArray).size ≤ 300 := by
    rw [mk_size, enc1_len, if_neg (show ¬ (8 : Int) = 0 by decide)]
    show 2 + (updD m 0).size ≤ 300
    omega
  have hx : (⟨(enc1 (updD m 0, 8)).toArray⟩ : ByteArray).data.toList = enc1 (updD m 0, 8) := rfl
  have nm1 := nil_eq m.next
  have nm2 := nil_em m.next
  by_cases hf : m.metric = 65535
  · have e10 : (m.metric == 65535) = true := by simpa using hf
    have HY := Lib.hid (show plainL m = (⟨(enc1 (updD m 0, 8)).toArray⟩, true) by rw [hy]; unfold wayE; rw [if_pos hf]; rfl)
    have cat := cat_is ⟨#[]⟩ ⟨(enc1 (updD m 0, 8)).toArray⟩ ⟨(enc1 (updD m 0, 8)).toArray⟩ (by decide) (by omega) (text_eq (by simp [ByteArray.data_append]))
    clear hy hx hzx hzu hom o hu ho hm ln lb hp nm1 nm2
    generalize (⟨(enc1 (updD m 0, 8)).toArray⟩ : ByteArray) = x at *
    go_enter Tryz.func21, Tryz.ntmps21
    go_upto_region 1 with fail
    generalize w.alloc (.cells m.cells 38) = V at *
    go_wp2_with (first | (refine wpList_loadM (b := w.heap.size) (m := m) rfl _ rfl rfl HF.out.m ?_))
    refine (P1.out _ HF.out.i).mono ?_
    rintro r w1 ⟨rfl, hb⟩
    have HF := Lib.hid (HF.out.call hb)
    clear hb P1
    have c0 := HF.out.m.cs.c0
    rw [k11] at c0
    have c10 := HF.out.m.cs.c10
    rw [hf] at c10
    clear hf
    go_wp2_with (first | (refine wpList_loadM (b := w.heap.size) (m := m) rfl _ rfl rfl HF.out.m ?_))
    refine (PU.out _ HF.out.i).mono ?_
    rintro r w2 ⟨rfl, hb⟩
    have HF := Lib.hid (HF.out.call hb)
    clear hb c0 c10 e10
    go_wp2
    go_ret2
    exact ⟨by rw [HY.out] <;> rfl, HF.out.bel⟩
  have e10 : (m.metric == 65535) = false := by simpa using hf
  obtain ⟨w1, w2, w3⟩ := way_near o.way hf
  have P3 := Lib.hid (fun V => rid_any m.id V w2)
  have hwid : ¬ m.id = Kx.zero.id := fun e => by rw [e] at w2; exact absurd w2 (by decide)
  have hnz : Kx.zero.nx (fam m.ae) = ByteArray.empty := by unfold Kx.nx; split <;> rfl
  unfold wayE at hy
  rw [if_neg hf, if_neg hwid, hnz] at hy
  have z1 : (⟨(enc1 (idD m.id, 6)).toArray⟩ : ByteArray).size ≤ 100 := by
    rw [mk_size, enc1_len, if_neg (show ¬ (6 : Int) = 0 by decide)]
    have := (id_ok w2).2
    show 2 + (idD m.id).size ≤ 100
    omega
  have hx1 : (⟨(enc1 (idD m.id, 6)).toArray⟩ : ByteArray).data.toList = enc1 (idD m.id, 6) := rfl
  by_cases hz : m.next.size = 0
  · rw [decide_eq_true hz] at nm1 nm2
    rw [if_pos (empty_of hz)] at hy
    have cat := cat_is ⟨(enc1 (idD m.id, 6)).toArray⟩ ⟨(enc1 (updD m 0, 8)).toArray⟩ (plainL m).1 (by omega) (by omega) (text_eq (by rw [hy]; simp [ByteArray.data_append, encT]))
    have HY := Lib.hid (show plainL m = ((plainL m).1, true) by rw [hy])
    generalize (plainL m).1 = us at *
    clear hy hx hx1 z1 hzx hzu hom o hu ho hm ln lb hp hnz hwid w1 w2 w3 hf hz
    generalize (⟨(enc1 (updD m 0, 8)).toArray⟩ : ByteArray) = x at *
    generalize (⟨(enc1 (idD m.id, 6)).toArray⟩ : ByteArray) = x1 at *
    go_enter Tryz.func21, Tryz.ntmps21
    go_upto_region 1 with fail
    generalize w.alloc (.cells m.cells 38) = V at *
    go_wp2_with (first | (refine wpList_loadM (b := w.heap.size) (m := m) rfl _ rfl rfl HF.out.m ?_))
    refine (P1.out _ HF.out.i).mono ?_
    rintro r w1 ⟨rfl, hb⟩
    have HF := Lib.hid (HF.out.call hb)
    clear hb P1
    have c0 := HF.out.m.cs.c0
    rw [k11] at c0
    have c10 := HF.out.m.cs.c10
    clear k11
    have c11 := HF.out.m.cs.c11
    go_wp2_with fail
    refine (P3.out _).mono ?_
    rintro r w3 ⟨rfl, hb⟩
    have HF := Lib.hid (HF.out.call hb)
    clear hb c0 c10 c11 e10
    have c9 := HF.out.m.cs.c9
    go_wp2_with (first | (refine wpList_loadM (b := w.heap.size) (m := m) rfl _ rfl rfl HF.out.m ?_))
    refine (PU.out _ HF.out.i).mono ?_
    rintro r w4 ⟨rfl, hb⟩
    have HF := Lib.hid (HF.out.call hb)
    clear hb c9 nm1 nm2
    go_wp2
    go_ret2
    exact ⟨by rw [HY.out] <;> rfl, HF.out.bel⟩
  have hz2 : m.next.size = 4 ∨ m.next.size = 16 := by
    rcases near_next hu hf (bad_zero m) with e | ⟨e, _⟩
    · rw [hnz] at e
      exact absurd (by rw [e]; rfl) hz
    · exact e
  have P4 := Lib.hid (fun V => rhop_any m.next V hz2)
  have z2 : (⟨(enc1 (hopD m.next, 7)).toArray⟩ : ByteArray).size ≤ 100 := by
    rw [mk_size, enc1_len, if_neg (show ¬ (7 : Int) = 0 by decide)]
    have := (L1.hop_size hz2).2
    show 2 + (hopD m.next).size ≤ 100
    omega
  rw [decide_eq_false hz] at nm1 nm2
  rw [if_neg (fun e => hz (by rw [e]; rfl))] at hy
  have cat1 := cat_is ⟨(enc1 (idD m.id, 6)).toArray⟩ ⟨(enc1 (hopD m.next, 7)).toArray⟩ _ (by omega) (by omega) rfl
  have z12 : ((⟨(enc1 (idD m.id, 6)).toArray⟩ : ByteArray) ++ ⟨(enc1 (hopD m.next, 7)).toArray⟩).size ≤ 200 := by rw [ByteArray.size_append]; omega
  have cat2 := cat_is ((⟨(enc1 (idD m.id, 6)).toArray⟩ : ByteArray) ++ ⟨(enc1 (hopD m.next, 7)).toArray⟩) ⟨(enc1 (updD m 0, 8)).toArray⟩ (plainL m).1 (by omega) (by omega) (text_eq (by rw [hy]; simp [ByteArray.data_append, encT]))
  have HY := Lib.hid (show plainL m = ((plainL m).1, true) by rw [hy])
  generalize (plainL m).1 = us at *
  clear hy hx hx1 z1 z2 z12 hzx hzu hom o hu ho hm ln lb hp hnz hwid w1 w2 w3 hf hz hz2
  generalize (⟨(enc1 (updD m 0, 8)).toArray⟩ : ByteArray) = x at *
  generalize (⟨(enc1 (idD m.id, 6)).toArray⟩ : ByteArray) = x1 at *
  generalize (⟨(enc1 (hopD m.next, 7)).toArray⟩ : ByteArray) = x2 at *
  generalize x1 ++ x2 = x12 at *
  go_enter Tryz.func21, Tryz.ntmps21
  go_upto_region 1 with fail
  generalize w.alloc (.cells m.cells 38) = V at *
  go_wp2_with (first | (refine wpList_loadM (b := w.heap.size) (m := m) rfl _ rfl rfl HF.out.m ?_))
  refine (P1.out _ HF.out.i).mono ?_
  rintro r w1 ⟨rfl, hb⟩
  have HF := Lib.hid (HF.out.call hb)
  clear hb P1
  have c0 := HF.out.m.cs.c0
  rw [k11] at c0
  have c10 := HF.out.m.cs.c10
  clear k11
  have c11 := HF.out.m.cs.c11
  go_wp2_with fail
  refine (P3.out _).mono ?_
  rintro r w3 ⟨rfl, hb⟩
  have HF := Lib.hid (HF.out.call hb)
  clear hb c0 c10 c11 e10
  have c9 := HF.out.m.cs.c9
  go_wp2_with fail
  refine (P4.out _).mono ?_
  rintro r w5 ⟨rfl, hb⟩
  have HF := Lib.hid (HF.out.call hb)
  clear hb c9 nm1 nm2
  go_wp2_with (first | (refine wpList_loadM (b := w.heap.size) (m := m) rfl _ rfl rfl HF.out.m ?_))
  refine (PU.out _ HF.out.i).mono ?_
  rintro r w4 ⟨rfl, hb⟩
  have HF := Lib.hid (HF.out.call hb)
  clear hb
  go_wp2
  go_ret2
  exact ⟨by rw [HY.out] <;> rfl, HF.out.bel⟩
end Go.Proofs.YtjhfpobjbijcpaaGreatDoor.Lp
