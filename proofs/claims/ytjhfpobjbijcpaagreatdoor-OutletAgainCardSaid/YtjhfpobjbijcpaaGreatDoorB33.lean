/-
  Any message's TLVs, and its bytes: the program's tlvs and Put. Conditions: what is known may be; the message's lists stand in the world, and aren't long; the variables have what they are laid with.
  How a writing of messages stands, one by one: what is known, the bytes so far; how it goes on and ends; the plain size, one by one; what a writing answers. No conditions.
-/
import Derived.Test.YtjhfpobjbijcpaaGreatDoorB15
import Derived.Test.YtjhfpobjbijcpaaGreatDoorB16
import Derived.Test.YtjhfpobjbijcpaaGreatDoorB17
import Derived.Test.YtjhfpobjbijcpaaGreatDoorB32
namespace Go.Proofs.YtjhfpobjbijcpaaGreatDoor.Lv
open Go.ChangeShapes Go.WideShapes Go.ChangeAt Go.RowKit
open Go.Proofs.YtjhfpobjbijcpaaGreatDoor.Ms
open Go.Proofs.YtjhfpobjbijcpaaGreatDoor.Box
open Go.Proofs.YtjhfpobjbijcpaaGreatDoor.An
open Go.Proofs.YtjhfpobjbijcpaaGreatDoor.Tc
open Go.Proofs.YtjhfpobjbijcpaaGreatDoor.J1
open Go.Proofs.YtjhfpobjbijcpaaGreatDoor.K1
open Go.Proofs.YtjhfpobjbijcpaaGreatDoor.Kb
open Go.Proofs.YtjhfpobjbijcpaaGreatDoor.L1
open Go.Proofs.YtjhfpobjbijcpaaGreatDoor.L2
open Go.Proofs.YtjhfpobjbijcpaaGreatDoor.L5
open Go.Proofs.YtjhfpobjbijcpaaGreatDoor.L6
open Go.Proofs.YtjhfpobjbijcpaaGreatDoor.Lw
open Go.Proofs.YtjhfpobjbijcpaaGreatDoor.Cx
open Go.Proofs.YtjhfpobjbijcpaaGreatDoor.F1 (enc1 enc1_len encT)
open Go.Proofs.YtjhfpobjbijcpaaGreatDoor.Bk (Bk alloc_size run_loadK loadVarK)
open Go.Proofs.YtjhfpobjbijcpaaGreatDoor.Js (Lst bs_one ex_bs cells_new infoT rowT catJ flat)
open Go.Proofs.YtjhfpobjbijcpaaGreatDoor.Hs
open Go.Proofs.YtjhfpobjbijcpaaGreatDoor.Hy
open Go.Proofs.YtjhfpobjbijcpaaGreatDoor.Or (st_yes)
set_option linter.unusedVariables false
set_option maxRecDepth 100000
set_option maxRecDepth 100000
open Go.Proofs.YtjhfpobjbijcpaaGreatDoor.Lu
/-- What Put answers is what tlvs does, joined. -/
theorem put_tlv (c : Kx) (m : M) : putL c m = (catJ (tlvP c m).1, (tlvP c m).2.1, (tlvP c m).2.2) := by
  unfold putL tlvP updP
  cases okL m
  · rfl
  rw [if_pos rfl, if_pos rfl]
  cases badC c m
  · rw [if_neg (by decide), if_neg (by decide)]
    show _ = (catJ (elB (elsL c m)), _, _)
    unfold catJ
    rw [elB_flat]
  · rfl
theorem els_size {c : Kx} {m : M} (h : okL m = true) (hb : badC c m = false) : (elsL c m).length ≤ 3 ∧ (encT (elsL c m)).length ≤ 1000 := by
  have h3 : (elsL c m).length ≤ 3 := by
    unfold elsL
    split
    · have := way_len c m
      rw [elB_len] at this
      rw [List.length_append]
      exact Nat.add_le_add_right this 1
    · exact (by decide : 1 ≤ 3)
  refine ⟨h3, ?_⟩
  have ho := els_ok h hb
  generalize elsL c m = l at *
  have h1 : ∀ x : F1.El, F1.ok1 x → (enc1 x).length ≤ 257 := fun x hx => by
    rw [enc1_len]
    have := hx.2.2.1
    split <;> omega
  clear h hb
  match l, h3, ho with
  | [], _, _ => exact (by decide : 0 ≤ 1000)
  | [x], _, ho => have := h1 x (ho x (by simp)); unfold encT; simp only [List.flatMap_cons, List.flatMap_nil, List.append_nil]; omega
  | [x, y], _, ho => have := h1 x (ho x (by simp)); have := h1 y (ho y (by simp)); unfold encT; simp only [List.flatMap_cons, List.flatMap_nil, List.append_nil, List.length_append]; omega
  | [x, y, z], _, ho => have := h1 x (ho x (by simp)); have := h1 y (ho y (by simp)); have := h1 z (ho z (by simp)); unfold encT; simp only [List.flatMap_cons, List.flatMap_nil, List.append_nil, List.length_append]; omega
theorem tlv_size (c : Kx) (m : M) : (tlvP c m).1.length ≤ 1000 ∧ (flat (tlvP c m).1).length ≤ 1000000 := by
  unfold tlvP updP
  cases ho : okL m
  · exact ⟨Nat.zero_le _, Nat.zero_le _⟩
  rw [if_pos rfl]
  cases hb : badC c m
  · rw [if_neg (by decide)]
    show (elB (elsL c m)).length ≤ 1000 ∧ (flat (elB (elsL c m))).length ≤ 1000000
    rw [elB_len, elB_flat]
    obtain ⟨h1, h2⟩ := els_size ho hb
    omega
  · exact ⟨Nat.zero_le _, Nat.zero_le _⟩
set_option maxHeartbeats 25600000 in
set_option maxRecDepth 100000 in
theorem tlvs_any (c : Kx) (m : M) (w : World) (hm : m.In w) (ln : m.sl.length ≤ 2000) (lb : ∀ x ∈ m.sl, x.1.size ≤ 1099511627776) (hp : m.pfx.size ≤ maxLen) (hc : okC c = true) (ht : Tab w) : Calls Tryz.prog 50 #[.agg c.cells, .agg m.cells] w (AnsW (tlvP c m) w) := by
  have P1 := Lib.hid (fun V (y : m.In V) (z : Tab V) => L5.right_any m V y lb hp z)
  have HT := Lib.hid ht
  clear ht
  cases ho : okL m
  · have HY := Lib.hid (show tlvP c m = ([], c, 1) by unfold tlvP; rw [ho]; rfl)
    rw [ho] at P1
    clear ho hc lb ln hp
    go_enter Tryz.func50, Tryz.ntmps50
    go_upto_region 1 with fail
    change Code.wp _ _ _ _ (((w.alloc (.cells c.cells 44)).alloc (.cells m.cells 38)).alloc (.cells Kx.zero.cells 44))
    have D := Lib.hid ((Us.start w c m hm).call (balloc (Below.refl _ _) (.cells Kx.zero.cells 44)))
    have R0 := Lib.hid (res_new w c m)
    clear hm
    generalize ((w.alloc (.cells c.cells 44)).alloc (.cells m.cells 38)).alloc (.cells Kx.zero.cells 44) = V at *
    go_wp2_with (first | (refine wpList_loadM (b := w.heap.size + 1) (m := m) rfl _ rfl rfl D.out.m0 ?_))
    refine (P1.out _ D.out.i (HT.out.below D.out.bel)).mono ?_
    rintro r w1 ⟨rfl, hb⟩
    have D := Lib.hid (D.out.call hb)
    have R0 := Lib.hid (R0.out.below hb)
    clear hb P1
    generalize w1 = V at *
    go_upto_region 2 with fail
    have R0 := Lib.hid (show Bk 44 V.drew (w.heap.size + 1 + 1) Kx.zero.cells from R0.out)
    have HB := Lib.hid (show Below w.heap.size w V.drew from D.out.bel.drew)
    refine wp_region_held_drew (S := fun X => Bk 44 X w.heap.size (Kx.cells c)) (by kernel_rfl) (D.out.s0) (fun hS => ?_)
    clear D
    generalize V.drew = Z0 at *
    refine H.tk (i := 0) (v := .agg (Kx.cells c)) ?h0x1t1 hS ?_
    case h0x1t1 => exact (fun w hw => run_loadK shX (x := .tmp 2) rfl rfl hw rfl)
    try simp only [Act.put, List.setIfInBounds_toArray, List.set_cons_zero, List.set_cons_succ]
    refine H.tk (i := 1) (v := (Value.slice none 0 0)) (fun w _ => rfl) hS ?_
    try simp only [Act.put, List.setIfInBounds_toArray, List.set_cons_zero, List.set_cons_succ]
    refine H.one (i := 2) (by simp only [List.getElem?_toArray, List.getElem?_cons_succ, List.getElem?_cons_zero]; rfl) (by kernel_rfl) (by kernel_rfl) (fun K hK => ?_)
    refine wp_store_row 44 _ _ rfl (w.heap.size + 1 + 1) (Kx.cells c) rfl rfl 44 Kx.zero.cells R0.out infoX rfl (oneX _) ?_
    refine hK.out _ _ (hS.row (by omega) _) ?_
    clear hK K
    have hS := (show Bk 44 (Z0.setRow (w.heap.size + 1 + 1) (Kx.cells c)) w.heap.size (Kx.cells c) from hS.row (by omega) _)
    try simp only [Act.put]
    refine H.tk (i := 3) (v := (Value.int IntKind.i64 1)) (fun w _ => rfl) hS ?_
    try simp only [Act.put, List.setIfInBounds_toArray, List.set_cons_zero, List.set_cons_succ]
    refine wpAnyH_done (by kernel_rfl) ?_ _
    go_wp2_with fail
    exact bodyPost_ret (v := .tuple #[.slice none 0 0, .agg (Kx.cells c), .int .i64 1]) (results_mid (ty := 44) rfl _ _ (w.heap.size + 1 + 1) (.agg (Kx.cells c)) (.slice none 0 0) rfl rfl (loadVarK shX (R0.out.put (Kx.cells c)) rfl) (.int .i64 1) rfl) rfl (AnsW.no HY.out (Box.below_setRow HB.out (by omega) _))
  rw [ho] at P1
  by_cases k : m.kind = 11
  · obtain ⟨ls, cf, er, hq⟩ : ∃ a b d, updP c m = (a, b, d) := ⟨_, _, _, rfl⟩
    have HY := Lib.hid (show tlvP c m = (ls, cf, er) by unfold tlvP; rw [ho, if_pos rfl, hq])
    have hu := ok_u ho k
    have PU := Lib.hid (fun V (y : m.In V) => (update_any c m V y ln lb hc hu).mono (fun e w' x => AnsW.said x hq))
    clear ho hc lb ln hp hu hq
    go_enter Tryz.func50, Tryz.ntmps50
    go_upto_region 1 with fail
    change Code.wp _ _ _ _ (((w.alloc (.cells c.cells 44)).alloc (.cells m.cells 38)).alloc (.cells Kx.zero.cells 44))
    have D := Lib.hid ((Us.start w c m hm).call (balloc (Below.refl _ _) (.cells Kx.zero.cells 44)))
    have R0 := Lib.hid (res_new w c m)
    clear hm
    generalize ((w.alloc (.cells c.cells 44)).alloc (.cells m.cells 38)).alloc (.cells Kx.zero.cells 44) = V at *
    go_wp2_with (first | (refine wpList_loadM (b := w.heap.size + 1) (m := m) rfl _ rfl rfl D.out.m0 ?_))
    refine (P1.out _ D.out.i (HT.out.below D.out.bel)).mono ?_
    rintro r w1 ⟨rfl, hb⟩
    have D := Lib.hid (D.out.call hb)
    have R0 := Lib.hid (R0.out.below hb)
    clear hb P1
    generalize w1 = V at *
    have c0 := D.out.m0.cs.c0
    rw [k] at c0
    clear k
    have hzV : w.heap.size + 1 + 1 < V.heap.size := R0.out.lt
    go_wp2_with (first | (refine wpList_loadX (b := w.heap.size) (m := c) rfl _ rfl rfl D.out.s0 ?_) | (refine wpList_loadM (b := w.heap.size + 1) (m := m) rfl _ rfl rfl D.out.m0 ?_))
    refine (PU.out _ D.out.i).mono ?_
    rintro r w2 ⟨qa, qk, rfl, hl, hb⟩
    have D := Lib.hid (D.out.call hb)
    have R0 := Lib.hid (R0.out.below hb)
    have HL := Lib.hid hl
    clear hb hl PU c0
    go_wp2_with (first | (refine wpList_storeX (b := w.heap.size + 1 + 1) (m := Kx.zero) (m' := cf) rfl _ _ rfl rfl rfl R0.out ?_))
    exact bodyPost_ret (v := .tuple #[.slice qa ls.length qk, .agg (Kx.cells cf), .int .i64 er]) (results_mid (ty := 44) rfl _ _ (w.heap.size + 1 + 1) (.agg (Kx.cells cf)) (.slice qa ls.length qk) rfl rfl (loadVarK shX (R0.out.put (Kx.cells cf)) rfl) (.int .i64 er) rfl) rfl (by rw [HY.out]; exact ⟨qa, qk, rfl, (HL.out.under hzV _).mono (by omega), Box.below_setRow D.out.bel (by omega) _⟩)
  have PA := Lib.hid (fun V (y : m.In V) (z : Tab V) => alone_any m V y ln lb hp z ho k)
  have HY := Lib.hid (show tlvP c m = ([⟨(enc1 (othE m)).toArray⟩], c, 0) by
    unfold tlvP updP elsL ctxL badC
    rw [ho, if_pos rfl, decide_eq_false k, if_neg k, if_neg k]
    rfl)
  generalize (⟨(enc1 (othE m)).toArray⟩ : ByteArray) = x at *
  have e11 : (m.kind == 11) = false := by simpa using k
  clear ho hc lb ln hp k
  go_enter Tryz.func50, Tryz.ntmps50
  go_upto_region 1 with fail
  change Code.wp _ _ _ _ (((w.alloc (.cells c.cells 44)).alloc (.cells m.cells 38)).alloc (.cells Kx.zero.cells 44))
  have D := Lib.hid ((Us.start w c m hm).call (balloc (Below.refl _ _) (.cells Kx.zero.cells 44)))
  have R0 := Lib.hid (res_new w c m)
  clear hm
  generalize ((w.alloc (.cells c.cells 44)).alloc (.cells m.cells 38)).alloc (.cells Kx.zero.cells 44) = V at *
  go_wp2_with (first | (refine wpList_loadM (b := w.heap.size + 1) (m := m) rfl _ rfl rfl D.out.m0 ?_))
  refine (P1.out _ D.out.i (HT.out.below D.out.bel)).mono ?_
  rintro r w1 ⟨rfl, hb⟩
  have D := Lib.hid (D.out.call hb)
  have R0 := Lib.hid (R0.out.below hb)
  clear hb P1
  generalize w1 = V at *
  have c0 := D.out.m0.cs.c0
  have hzV : w.heap.size + 1 + 1 < V.heap.size := R0.out.lt
  go_upto_region 5 with fail
  have HT := Lib.hid (HT.out.below D.out.bel.drew)
  have R0 := Lib.hid (show Bk 44 V.drew (w.heap.size + 1 + 1) Kx.zero.cells from R0.out)
  refine wp_region_held_drew (S := fun W => Us w c m W) (by kernel_rfl) D.out.drew (fun hS => ?_)
  have hzV : w.heap.size + 1 + 1 < V.drew.heap.size := hzV
  clear D c0 e11
  generalize V.drew = X0 at *
  refine H.tk (i := 0) (v := .agg (M.cells m)) ?h0x1 hS ?_
  case h0x1 => exact (fun w hw => run_loadM (x := .tmp 3) rfl rfl hw.m0)
  try simp only [Act.put, List.setIfInBounds_toArray, List.set_cons_zero, List.set_cons_succ]
  refine H.tk (i := 3) (v := .agg (Kx.cells c)) ?h3x2 hS ?_
  case h3x2 => exact (fun w hw => run_loadK shX (x := .tmp 2) rfl rfl hw.s0 rfl)
  try simp only [Act.put, List.setIfInBounds_toArray, List.set_cons_zero, List.set_cons_succ]
  refine H.one (i := 1) (by simp only [List.getElem?_toArray, List.getElem?_cons_succ, List.getElem?_cons_zero]; rfl) (by kernel_rfl) (by kernel_rfl) (fun K hK => ?_)
  go_simp
  refine (PA.out _ hS.i HT.out).mono ?_
  rintro e X1 ⟨rfl, hb⟩
  have hS' := hS.call hb
  have R0 := Lib.hid (R0.out.below hb)
  have hz1 := hb.size
  refine hK.out _ _ hS' ?_
  clear hK K hb hS
  have hS := hS'
  clear hS'
  try simp only [Act.put, List.setIfInBounds_toArray, List.set_cons_zero, List.set_cons_succ]
  refine H.one (i := 2) (by simp only [List.getElem?_toArray, List.getElem?_cons_succ, List.getElem?_cons_zero]; rfl) (by kernel_rfl) (by kernel_rfl) (fun K hK => ?_)
  refine wp_valW rfl (ex_bs (s := x) rfl rfl) ?_
  have bel := balloc (Below.refl X1.heap.size X1) (.cells #[.string x] 9)
  have hS' := hS.call bel
  have R0 := Lib.hid (R0.out.below bel)
  refine hK.out _ _ hS' ?_
  have HL := Lib.hid (Js.one_new x X1)
  clear hK K hS bel
  have hS := hS'
  clear hS'
  generalize X1.alloc (.cells #[.string x] 9) = X2 at *
  have hzX : w.heap.size + 1 + 1 < X1.heap.size := by omega
  clear hz1
  generalize X1.heap.size = g8 at *
  try simp only [Act.put, List.setIfInBounds_toArray, List.set_cons_zero, List.set_cons_succ]
  refine H.tk (i := 4) (v := .slice (some ⟨g8, 0, none⟩) 1 1) ?h4x3 hS ?_
  case h4x3 => exact (fun w hw => by go_simp)
  try simp only [Act.put, List.setIfInBounds_toArray, List.set_cons_zero, List.set_cons_succ]
  refine H.one (i := 5) (by simp only [List.getElem?_toArray, List.getElem?_cons_succ, List.getElem?_cons_zero]; rfl) (by kernel_rfl) (by kernel_rfl) (fun K hK => ?_)
  refine wp_store_row 44 _ _ rfl (w.heap.size + 1 + 1) (Kx.cells c) rfl rfl 44 Kx.zero.cells R0.out infoX rfl (oneX _) ?_
  refine hK.out _ _ (hS.row (by omega) _) ?_
  clear hK K
  have hS := (show Us w c m (X2.setRow (w.heap.size + 1 + 1) (Kx.cells c)) from hS.row (by omega) _)
  try simp only [Act.put]
  refine H.tk (i := 6) (v := (Value.int IntKind.i64 0)) (fun w _ => rfl) hS ?_
  try simp only [Act.put, List.setIfInBounds_toArray, List.set_cons_zero, List.set_cons_succ]
  refine wpAnyH_done (by kernel_rfl) ?_ _
  go_wp2_with fail
  exact bodyPost_ret (v := .tuple #[.slice (some ⟨g8, 0, none⟩) 1 1, .agg (Kx.cells c), .int .i64 0]) (results_mid (ty := 44) rfl _ _ (w.heap.size + 1 + 1) (.agg (Kx.cells c)) (.slice (some ⟨g8, 0, none⟩) 1 1) rfl rfl (loadVarK shX (R0.out.put (Kx.cells c)) rfl) (.int .i64 0) rfl) rfl (by rw [HY.out]; exact ⟨_, 1, rfl, (HL.out.under (by omega) _).mono (by omega), hS.bel⟩)
set_option maxHeartbeats 25600000 in
set_option maxRecDepth 100000 in
theorem put_any (c : Kx) (m : M) (w : World) (hm : m.In w) (ln : m.sl.length ≤ 2000) (lb : ∀ x ∈ m.sl, x.1.size ≤ 1099511627776) (hp : m.pfx.size ≤ maxLen) (hc : okC c = true) (ht : Tab w) : Calls Tryz.prog 28 #[.agg c.cells, .agg m.cells] w fun e w' => e = .returned (.tuple #[.string (putL c m).1, .agg (putL c m).2.1.cells, .int .i64 (putL c m).2.2]) ∧ Below w.heap.size w w' := by
  have hsz := tlv_size c m
  have hq := put_tlv c m
  have PT := fun V (y : m.In V) (z : Tab V) => tlvs_any c m V y ln lb hp hc z
  obtain ⟨ls, cf, er, he⟩ : ∃ a b d, tlvP c m = (a, b, d) := ⟨_, _, _, rfl⟩
  rw [he] at hsz hq PT
  rw [hq]
  have HSZ := Lib.hid (show ls.length ≤ 1000 ∧ (flat ls).length ≤ 1000000 from hsz)
  have PT := Lib.hid (fun V (y : m.In V) (z : Tab V) => (PT V y z).mono (fun e w' x => AnsW.said x rfl))
  have HT := Lib.hid ht
  clear hsz hq he ln lb hp hc ht
  show Calls _ _ _ _ fun e w' => e = .returned (.tuple #[.string (catJ ls), .agg cf.cells, .int .i64 er]) ∧ Below w.heap.size w w'
  go_enter Tryz.func28, Tryz.ntmps28
  go_upto_region 1 with fail
  change Code.wp _ _ _ _ (((w.alloc (.cells c.cells 44)).alloc (.cells m.cells 38)).alloc (.cells Kx.zero.cells 44))
  have D := Lib.hid ((Us.start w c m hm).call (balloc (Below.refl _ _) (.cells Kx.zero.cells 44)))
  have R0 := Lib.hid (res_new w c m)
  clear hm
  generalize ((w.alloc (.cells c.cells 44)).alloc (.cells m.cells 38)).alloc (.cells Kx.zero.cells 44) = V at *
  have hzV : w.heap.size + 1 + 1 < V.heap.size := R0.out.lt
  go_wp2_with (first | (refine wpList_loadX (b := w.heap.size) (m := c) rfl _ rfl rfl D.out.s0 ?_) | (refine wpList_loadM (b := w.heap.size + 1) (m := m) rfl _ rfl rfl D.out.m0 ?_))
  refine (PT.out _ D.out.i (HT.out.below D.out.bel)).mono ?_
  rintro r w1 ⟨qa, qk, rfl, hl, hb⟩
  have D := Lib.hid (D.out.call hb)
  have R0 := Lib.hid (R0.out.below hb)
  have HL := Lib.hid hl
  have hz1 := hb.size
  clear hl hb PT
  go_upto_region 2 with (refine wpList_storeX (b := w1.heap.size) (m := Kx.zero) (m' := cf) rfl _ _ rfl rfl rfl (Bk.Bk.new 44 w1 Kx.zero.cells) ?_)
  change Code.wp _ _ _ _ ((w1.alloc (.cells Kx.zero.cells 44)).setRow w1.heap.size (Kx.cells cf))
  rw [World.setRow_alloc_new]
  have bel := balloc (Below.refl w1.heap.size w1) (.cells (Kx.cells cf) 44)
  have D := Lib.hid (D.out.call bel)
  have S1 := Lib.hid (Bk.Bk.new 44 w1 (Kx.cells cf))
  have R0 := Lib.hid (R0.out.below bel)
  have HL := Lib.hid (HL.out.below bel)
  have hgz : w.heap.size + 1 + 1 < w1.heap.size := by omega
  clear bel hz1
  generalize w1.alloc (.cells (Kx.cells cf) 44) = V2 at *
  generalize w1.heap.size = g at *
  have R0 := Lib.hid (show Bk 44 V2.drew (w.heap.size + 1 + 1) Kx.zero.cells from R0.out)
  have HB := Lib.hid (show Below w.heap.size w V2.drew from D.out.bel.drew)
  refine wp_region_held_drew (S := fun X => Lst V.heap.size X (.slice qa ls.length qk) ls ∧ Bk 44 X g cf.cells) (by kernel_rfl) ⟨HL.out.below (Below.refl _ V2).drew, S1.out⟩ (fun hS => ?_)
  clear D HL S1
  generalize V2.drew = X0 at *
  refine H.tk (i := 0) (v := .slice qa ls.length qk) ?h0x1v hS ?_
  case h0x1v => exact (fun w hw => by go_simp)
  try simp only [Act.put, List.setIfInBounds_toArray, List.set_cons_zero, List.set_cons_succ]
  refine H.tk (i := 2) (v := .agg (Kx.cells cf)) ?h2x2v hS ?_
  case h2x2v => exact (fun w hw => run_loadK shX (x := .tmp 8) rfl rfl hw.2 rfl)
  try simp only [Act.put, List.setIfInBounds_toArray, List.set_cons_zero, List.set_cons_succ]
  refine H.tk (i := 3) (v := .int .i64 er) ?h3x3v hS ?_
  case h3x3v => exact (fun w hw => by go_simp)
  try simp only [Act.put, List.setIfInBounds_toArray, List.set_cons_zero, List.set_cons_succ]
  refine H.one (i := 1) (by simp only [List.getElem?_toArray, List.getElem?_cons_succ, List.getElem?_cons_zero]; rfl) (by kernel_rfl) (by kernel_rfl) (fun K hK => ?_)
  go_simp
  refine (Js.join_any qa qk ls _ hS.1 HSZ.out.1 HSZ.out.2).mono ?_
  rintro e X1 ⟨rfl, hb⟩
  have hS' := And.intro (hS.1.below hb) (hS.2.below hb)
  have R0 := Lib.hid (R0.out.below hb)
  have HB := Lib.hid (bcall HB.out hb)
  refine hK.out _ _ hS' ?_
  clear hK K hb hS
  have hS := hS'
  clear hS'
  try simp only [Act.put, List.setIfInBounds_toArray, List.set_cons_zero, List.set_cons_succ]
  refine H.tk (i := 4) (v := .string (catJ ls)) ?h4x4v hS ?_
  case h4x4v => exact (fun w hw => by go_simp)
  try simp only [Act.put, List.setIfInBounds_toArray, List.set_cons_zero, List.set_cons_succ]
  refine H.one (i := 5) (by simp only [List.getElem?_toArray, List.getElem?_cons_succ, List.getElem?_cons_zero]; rfl) (by kernel_rfl) (by kernel_rfl) (fun K hK => ?_)
  refine wp_store_row 44 _ _ rfl (w.heap.size + 1 + 1) (Kx.cells cf) rfl rfl 44 Kx.zero.cells R0.out infoX rfl (oneX _) ?_
  refine hK.out _ _ ⟨hS.1.under hzV _, hS.2.row (by omega) _⟩ ?_
  clear hK K
  have hS := (show Lst V.heap.size (X1.setRow (w.heap.size + 1 + 1) (Kx.cells cf)) (.slice qa ls.length qk) ls ∧ Bk 44 (X1.setRow (w.heap.size + 1 + 1) (Kx.cells cf)) g cf.cells from ⟨hS.1.under hzV _, hS.2.row (by omega) _⟩)
  try simp only [Act.put]
  refine H.tk (i := 6) (v := .int .i64 er) ?h6x5v hS ?_
  case h6x5v => exact (fun w hw => by go_simp)
  try simp only [Act.put, List.setIfInBounds_toArray, List.set_cons_zero, List.set_cons_succ]
  refine wpAnyH_done (by kernel_rfl) ?_ _
  go_wp2_with fail
  exact bodyPost_ret (v := .tuple #[.string (catJ ls), .agg (Kx.cells cf), .int .i64 er]) (results_mid (ty := 44) rfl _ _ (w.heap.size + 1 + 1) (.agg (Kx.cells cf)) (.string (catJ ls)) rfl rfl (loadVarK shX (R0.out.put (Kx.cells cf)) rfl) (.int .i64 er) rfl) rfl ⟨rfl, Box.below_setRow HB.out (by omega) _⟩
end Go.Proofs.YtjhfpobjbijcpaaGreatDoor.Lv
namespace Go.Proofs.YtjhfpobjbijcpaaGreatDoor.O3
open Go.ChangeShapes Go.WideShapes Go.ChangeAt Go.RowKit
open Go.Proofs.YtjhfpobjbijcpaaGreatDoor.Ms
open Go.Proofs.YtjhfpobjbijcpaaGreatDoor.Box
open Go.Proofs.YtjhfpobjbijcpaaGreatDoor.All
open Go.Proofs.YtjhfpobjbijcpaaGreatDoor.An
open Go.Proofs.YtjhfpobjbijcpaaGreatDoor.K1
open Go.Proofs.YtjhfpobjbijcpaaGreatDoor.L2
open Go.Proofs.YtjhfpobjbijcpaaGreatDoor.O1
open Go.Proofs.YtjhfpobjbijcpaaGreatDoor.F1 (T okT okT_nil encT wrap okT_append encT_append encT_nil)
set_option linter.unusedVariables false
set_option maxRecDepth 100000
theorem put_no {c : Kx} {m : M} (h : okL m = false) : putL c m = (ByteArray.empty, c, 1) := by unfold putL; rw [h]; rfl
theorem put_bad {c : Kx} {m : M} (h : okL m = true) (hb : badC c m = true) : putL c m = (ByteArray.empty, c, 9) := by unfold putL; rw [h, hb]; rfl
theorem put_yes {c : Kx} {m : M} (h : okL m = true) (hb : badC c m = false) : putL c m = (⟨(encT (elsL c m)).toArray⟩, ctxL c m, 0) := by unfold putL; rw [h, hb]; rfl
/-- No list within is long, nor its prefix. -/
def Sp (m : M) : Prop := m.ll.length ≤ 1048576 ∧ m.sl.length ≤ 2000 ∧ (∀ x ∈ m.sl, x.1.size ≤ 1099511627776) ∧ m.pfx.size ≤ maxLen
theorem Sp.few {m : M} (h : Few.fewB m = true) (hp : m.pfx.size ≤ maxLen) : Sp m := by
  obtain ⟨h1, h2, h3⟩ := few_parts h
  exact ⟨by omega, by omega, h3, hp⟩
theorem Sp.short {m : M} (h : Sp m) : Short m := ⟨h.1, by have := h.2.1; omega⟩
theorem row_in {W : World} {a : Option Addr} {l : List M} (h : MRow W a l) (hs : ∀ m ∈ l, Sp m) {k : Nat} (hk : k < l.length) : l[k].In W := by
  obtain ⟨p, _, _, _, hd, hsr⟩ := h k hk
  have h := hs _ (List.getElem_mem hk)
  exact ⟨hd, hsr, by have := h.1; omega, by have := h.2.1; omega⟩
/-- What a writing answers: bytes, a place, an error. -/
def AnsE (p : ByteArray × Int × Int) (w : World) (e : Ending) (w' : World) : Prop := e = .returned (.tuple #[.string p.1, .int .i64 p.2.1, .int .i64 p.2.2]) ∧ Below w.heap.size w w'
theorem AnsE.of {p : ByteArray × Int × Int} {w w' : World} {b : ByteArray} {i e : Int} (h : p = (b, i, e)) (hb : Below w.heap.size w w') : AnsE p w (.returned (.tuple #[.string b, .int .i64 i, .int .i64 e])) w' := by subst h; exact ⟨rfl, hb⟩
theorem all_of {l : List M} (h : ∀ i (hi : i < l.length), okL l[i] = true) : l.all okL = true := by
  rw [List.all_eq_true]
  intro x hx
  obtain ⟨i, hi, rfl⟩ := List.getElem_of_mem hx
  exact h i hi
theorem wrong_at : ∀ (l : List M) (k : Nat) (hk : k < l.length) (i : Int), (∀ j (hj : j < l.length), j < k → okL l[j] = true) → okL l[k] = false → wrongAt l i = i + k
  | [], k, hk, _, _, _ => absurd hk (by simp)
  | m :: l, 0, hk, i, h, hn => by
      have hn : okL m = false := hn
      unfold wrongAt; rw [hn]; simp
  | m :: l, k + 1, hk, i, h, hn => by
      have hm : okL m = true := h 0 (by simp) (by omega)
      have ih := wrong_at l k (by simpa using hk) (i + 1) (fun j hj hjk => by have := h (j + 1) (by simpa using hj) (by omega); simpa using this) (by simpa using hn)
      unfold wrongAt; rw [if_pos hm, ih]; push_cast; omega
/-- One may not be. -/
theorem enc_wrong {l : List M} {k : Nat} (hk : k < l.length) (h : ∀ i (hi : i < l.length), i < k → okL l[i] = true) (hn : okL l[k] = false) : outE l = (ByteArray.empty, (k : Int), 1) := by
  have hna : ¬ l.all okL = true := fun ha => by
    have := List.all_eq_true.1 ha _ (List.getElem_mem hk)
    rw [hn] at this; cases this
  unfold outE
  rw [if_neg hna, wrong_at l k hk 0 h hn, Int.zero_add]
/-- The first k are written: c is known, s are the bytes. -/
def St (l : List M) (k : Nat) (c : Kx) (s : ByteArray) : Prop := ∃ a, okT a ∧ s = ⟨(encT a).toArray⟩ ∧ (encT a).length ≤ 65531 ∧ okC c = true ∧ outE l = outW (l.drop k) c a k
theorem St.ok {l : List M} {k : Nat} {c : Kx} {s : ByteArray} (h : St l k c s) : okC c = true := by obtain ⟨_, _, _, _, h, _⟩ := h; exact h
theorem mk_len (l : List UInt8) : (ByteArray.mk l.toArray).size = l.length := by show l.toArray.size = _; simp
theorem St.size {l : List M} {k : Nat} {c : Kx} {s : ByteArray} (h : St l k c s) : s.size ≤ 65531 := by obtain ⟨a, _, rfl, h, _⟩ := h; rw [mk_len]; exact h
theorem St.start {l : List M} (h : ∀ i (hi : i < l.length), okL l[i] = true) : St l 0 Kx.zero ByteArray.empty :=
  ⟨[], okT_nil, rfl, Nat.zero_le _, okc_zero, by unfold outE; rw [if_pos (all_of h)]; rfl⟩
theorem cat_enc (a b : List F1.El) : (ByteArray.mk (encT a).toArray) ++ (ByteArray.mk (encT b).toArray) = ⟨(encT (a ++ b)).toArray⟩ := by
  apply Nu.text_eq
  simp [ByteArray.data_append, encT_append]
theorem put_len (c : Kx) (m : M) : (putL c m).1.size ≤ 1000 := by
  cases h : okL m
  · rw [put_no h]; exact Nat.zero_le _
  cases hb : badC c m
  · rw [put_yes h hb, mk_len]; exact (Lv.els_size h hb).2
  · rw [put_bad h hb]; exact Nat.zero_le _
/-- One more. -/
theorem St.step {l : List M} {k : Nat} {c : Kx} {s : ByteArray} (h : St l k c s) (hk : k < l.length) (ho : okL l[k] = true) :
    (¬ (putL c l[k]).2.2 = 0 → outE l = (ByteArray.empty, (k : Int), (putL c l[k]).2.2)) ∧
    ((putL c l[k]).2.2 = 0 → 65531 < (s ++ (putL c l[k]).1).size → outE l = (ByteArray.empty, (k : Int), 10)) ∧
    ((putL c l[k]).2.2 = 0 → ¬ 65531 < (s ++ (putL c l[k]).1).size → St l (k + 1) (putL c l[k]).2.1 (s ++ (putL c l[k]).1)) := by
  obtain ⟨a, ha, rfl, hz, hc, he⟩ := h
  rw [List.drop_eq_getElem_cons hk] at he
  cases hb : badC c l[k]
  · rw [put_yes ho hb, cat_enc, mk_len]
    refine ⟨fun h => absurd rfl h, fun _ h => ?_, fun _ h => ⟨a ++ elsL c l[k], okT_append ha (els_ok ho hb), rfl, by omega, put_ok hc ho hb, ?_⟩⟩
    · rw [he]
      show (if _ then _ else if _ then _ else _) = _
      rw [if_neg (by rw [hb]; decide), if_pos h]
    · rw [he]
      show (if _ then _ else if _ then _ else _) = _
      rw [if_neg (by rw [hb]; decide), if_neg h]
      push_cast
      rfl
  · rw [put_bad ho hb]
    refine ⟨fun _ => ?_, fun h => absurd (show (9 : Int) = 0 from h) (by decide), fun h => absurd (show (9 : Int) = 0 from h) (by decide)⟩
    rw [he]
    show (if _ then _ else _) = _
    rw [if_pos hb]
theorem St.done {l : List M} {c : Kx} {s : ByteArray} (h : St l l.length c s) : outE l = (wrap s, 0, 0) := by
  obtain ⟨a, ha, rfl, hz, hc, he⟩ := h
  rw [he, List.drop_length]; rfl
/-- The plain size, one by one. -/
theorem plain_take : ∀ (l : List M) (k : Nat) (hk : k < l.length), plainN (l.take (k + 1)) = plainN (l.take k) + ((encT (elsL Kx.zero l[k])).length : Int)
  | [], k, hk => absurd hk (by simp)
  | m :: l, 0, hk => by
      show plainN [m] = plainN [] + _
      unfold plainN plainN
      simp
  | m :: l, k + 1, hk => by
      have ih := plain_take l k (by simpa using hk)
      show plainN (m :: l.take (k + 1)) = plainN (m :: l.take k) + _
      unfold plainN
      rw [ih]
      simp only [List.getElem_cons_succ]
      omega
theorem plain_most : ∀ (l : List M), l.all okL = true → plainN l ≤ 1000 * (l.length : Int)
  | [], _ => by unfold plainN; simp
  | m :: l, h => by
      rw [List.all_cons, Bool.and_eq_true] at h
      have := plain_most l h.2
      have h1 := (Lv.els_size h.1 (bad_zero m)).2
      unfold plainN
      rw [List.length_cons]
      push_cast
      omega
/-- How its counting stands. -/
def Sn (l : List M) (k : Nat) (n : Int) : Prop := (l.take k).all okL = true ∧ n = 4 + plainN (l.take k)
theorem Sn.start (l : List M) : Sn l 0 4 := ⟨rfl, rfl⟩
theorem Sn.range {l : List M} {k : Nat} {n : Int} (h : Sn l k n) (hl : l.length ≤ 3000) : 4 ≤ n ∧ n ≤ 4000000 := by
  have h1 := plain_nn (l.take k)
  have h2 := plain_most _ h.1
  have h3 : (l.take k).length ≤ l.length := by rw [List.length_take]; omega
  have := h.2
  omega
theorem Sn.step {l : List M} {k : Nat} {n : Int} (h : Sn l k n) (hk : k < l.length) :
    ((plainL l[k]).2 = true → Sn l (k + 1) (n + ((plainL l[k]).1.size : Int)) ∧ (plainL l[k]).1.size ≤ 1000) ∧ ((plainL l[k]).2 = false → outN l = 0) := by
  cases ho : okL l[k]
  · refine ⟨fun h => ?_, fun _ => ?_⟩
    · unfold plainL at h; rw [ho] at h; cases h
    · unfold outN
      rw [if_neg (fun ha => by have := List.all_eq_true.1 ha _ (List.getElem_mem hk); rw [ho] at this; cases this)]
  · have hp : plainL l[k] = (⟨(encT (elsL Kx.zero l[k])).toArray⟩, true) := by unfold plainL; rw [ho]; rfl
    rw [hp]
    refine ⟨fun _ => ⟨⟨?_, ?_⟩, ?_⟩, fun h => by cases h⟩
    · rw [List.take_succ_eq_append_getElem hk, List.all_append, h.1, List.all_cons, ho]; rfl
    · rw [plain_take l k hk, h.2]
      show 4 + plainN (l.take k) + ((ByteArray.mk (encT (elsL Kx.zero l[k])).toArray).size : Int) = _
      rw [mk_len]; omega
    · show (ByteArray.mk (encT (elsL Kx.zero l[k])).toArray).size ≤ 1000
      rw [mk_len]; exact (Lv.els_size ho (bad_zero _)).2
theorem Sn.done {l : List M} {n : Int} (h : Sn l l.length n) : outN l = n := by
  have h1 := h.1
  have h2 := h.2
  rw [List.take_length] at h1 h2
  unfold outN
  rw [if_pos h1, h2]
end Go.Proofs.YtjhfpobjbijcpaaGreatDoor.O3
