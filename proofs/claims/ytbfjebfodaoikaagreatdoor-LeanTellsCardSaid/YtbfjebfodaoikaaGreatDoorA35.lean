/-
  Any message's TLVs, and its bytes: the program's tlvs and Put. Conditions: what is known may be; the message's lists stand in the world, and aren't long; the variables have what they are laid with.
  The document's example of layer 24. Condition: the variables have what they are laid with.
  What the laws of layer 24 share: the boxes of what is known and of a message; what Put's answer is, case by case; the last TLV of a list of a call's own. No conditions.
-/
import Derived.Test.YtbfjebfodaoikaaGreatDoorA02
import Derived.Test.YtbfjebfodaoikaaGreatDoorA03
import Derived.Test.YtbfjebfodaoikaaGreatDoorA10
import Derived.Test.YtbfjebfodaoikaaGreatDoorA12
import Derived.Test.YtbfjebfodaoikaaGreatDoorA15
import Derived.Test.YtbfjebfodaoikaaGreatDoorA16
import Derived.Test.YtbfjebfodaoikaaGreatDoorA34
namespace Go.Proofs.YtbfjebfodaoikaaGreatDoor.Lv
open Go.ChangeShapes Go.WideShapes Go.ChangeAt Go.RowKit
open Go.Proofs.YtbfjebfodaoikaaGreatDoor.Ms
open Go.Proofs.YtbfjebfodaoikaaGreatDoor.Box
open Go.Proofs.YtbfjebfodaoikaaGreatDoor.An
open Go.Proofs.YtbfjebfodaoikaaGreatDoor.Tc
open Go.Proofs.YtbfjebfodaoikaaGreatDoor.J1
open Go.Proofs.YtbfjebfodaoikaaGreatDoor.K1
open Go.Proofs.YtbfjebfodaoikaaGreatDoor.Kb
open Go.Proofs.YtbfjebfodaoikaaGreatDoor.L1
open Go.Proofs.YtbfjebfodaoikaaGreatDoor.L2
open Go.Proofs.YtbfjebfodaoikaaGreatDoor.L5
open Go.Proofs.YtbfjebfodaoikaaGreatDoor.L6
open Go.Proofs.YtbfjebfodaoikaaGreatDoor.Lw
open Go.Proofs.YtbfjebfodaoikaaGreatDoor.Cx
open Go.Proofs.YtbfjebfodaoikaaGreatDoor.F1 (enc1 enc1_len encT)
open Go.Proofs.YtbfjebfodaoikaaGreatDoor.Bk (Bk alloc_size run_loadK loadVarK)
open Go.Proofs.YtbfjebfodaoikaaGreatDoor.Js (Lst bs_one ex_bs cells_new infoT rowT catJ flat)
open Go.Proofs.YtbfjebfodaoikaaGreatDoor.Hs
open Go.Proofs.YtbfjebfodaoikaaGreatDoor.Hy
open Go.Proofs.YtbfjebfodaoikaaGreatDoor.Or (st_yes)
set_option linter.unusedVariables false
set_option maxRecDepth 100000
set_option maxRecDepth 100000
open Go.Proofs.YtbfjebfodaoikaaGreatDoor.Lu
/-- What Put answers is what tlvs does, joined. -/
theorem put_tlv (c : Kx) (m : M) : putL c m = (catJ (tlvP c m).1, (tlvP c m).2.1, (tlvP c m).2.2) := by
  unfold putL tlvP updP
  cases okL m
  · rfl
  rw [if_pos rfl, if_pos rfl]
  cases badC c m
  · rw [if_neg (by decide), if_neg (by decide)]
    show _ = (catJ (elB (elsL c m)), _, _)
    unfold catJ
    rw [elB_flat]
  · rfl
theorem els_size {c : Kx} {m : M} (h : okL m = true) (hb : badC c m = false) : (elsL c m).length ≤ 3 ∧ (encT (elsL c m)).length ≤ 1000 := by
  have h3 : (elsL c m).length ≤ 3 := by
    unfold elsL
    split
    · have := way_len c m
      rw [elB_len] at this
      rw [List.length_append]
      exact Nat.add_le_add_right this 1
    · exact (by decide : 1 ≤ 3)
  refine ⟨h3, ?_⟩
  have ho := els_ok h hb
  generalize elsL c m = l at *
  have h1 : ∀ x : F1.El, F1.ok1 x → (enc1 x).length ≤ 257 := fun x hx => by
    rw [enc1_len]
    have := hx.2.2.1
    split <;> omega
  clear h hb
  match l, h3, ho with
  | [], _, _ => exact (by decide : 0 ≤ 1000)
  | [x], _, ho => have := h1 x (ho x (by simp)); unfold encT; simp only [List.flatMap_cons, List.flatMap_nil, List.append_nil]; omega
  | [x, y], _, ho => have := h1 x (ho x (by simp)); have := h1 y (ho y (by simp)); unfold encT; simp only [List.flatMap_cons, List.flatMap_nil, List.append_nil, List.length_append]; omega
  | [x, y, z], _, ho => have := h1 x (ho x (by simp)); have := h1 y (ho y (by simp)); have := h1 z (ho z (by simp)); unfold encT; simp only [List.flatMap_cons, List.flatMap_nil, List.append_nil, List.length_append]; omega
theorem tlv_size (c : Kx) (m : M) : (tlvP c m).1.length ≤ 1000 ∧ (flat (tlvP c m).1).length ≤ 1000000 := by
  unfold tlvP updP
  cases ho : okL m
  · exact ⟨Nat.zero_le _, Nat.zero_le _⟩
  rw [if_pos rfl]
  cases hb : badC c m
  · rw [if_neg (by decide)]
    show (elB (elsL c m)).length ≤ 1000 ∧ (flat (elB (elsL c m))).length ≤ 1000000
    rw [elB_len, elB_flat]
    obtain ⟨h1, h2⟩ := els_size ho hb
    omega
  · exact ⟨Nat.zero_le _, Nat.zero_le _⟩
set_option maxHeartbeats 25600000 in
set_option maxRecDepth 100000 in
theorem tlvs_any (c : Kx) (m : M) (w : World) (hm : m.In w) (ln : m.sl.length ≤ 2000) (lb : ∀ x ∈ m.sl, x.1.size ≤ 1099511627776) (hp : m.pfx.size ≤ maxLen) (hc : okC c = true) (ht : Tab w) : Calls Tryz.prog 14 #[.agg c.cells, .agg m.cells] w (AnsW (tlvP c m) w) := by
  have P1 := Lib.hid (fun V (y : m.In V) (z : Tab V) => L5.right_any m V y lb hp z)
  have HT := Lib.hid ht
  clear ht
  cases ho : okL m
  · have HY := Lib.hid (show tlvP c m = ([], c, 1) by unfold tlvP; rw [ho]; rfl)
    rw [ho] at P1
    clear ho hc lb ln hp
    go_enter Tryz.func14, Tryz.ntmps14
    go_upto_region 1 with fail
    change Code.wp _ _ _ _ (((w.alloc (.cells c.cells 25)).alloc (.cells m.cells 29)).alloc (.cells Kx.zero.cells 25))
    have D := Lib.hid ((Us.start w c m hm).call (balloc (Below.refl _ _) (.cells Kx.zero.cells 25)))
    have R0 := Lib.hid (res_new w c m)
    clear hm
    generalize ((w.alloc (.cells c.cells 25)).alloc (.cells m.cells 29)).alloc (.cells Kx.zero.cells 25) = V at *
    go_wp2_with (first | (refine wpList_loadM (b := w.heap.size + 1) (m := m) rfl _ rfl rfl D.out.m0 ?_))
    refine (P1.out _ D.out.i (HT.out.below D.out.bel)).mono ?_
    rintro r w1 ⟨rfl, hb⟩
    have D := Lib.hid (D.out.call hb)
    have R0 := Lib.hid (R0.out.below hb)
    clear hb P1
    generalize w1 = V at *
    go_upto_region 2 with fail
    have R0 := Lib.hid (show Bk 25 V.drew (w.heap.size + 1 + 1) Kx.zero.cells from R0.out)
    have HB := Lib.hid (show Below w.heap.size w V.drew from D.out.bel.drew)
    refine wp_region_held_drew (S := fun X => Bk 25 X w.heap.size (Kx.cells c)) (by kernel_rfl) (D.out.s0) (fun hS => ?_)
    clear D
    generalize V.drew = Z0 at *
    refine H.tk (i := 0) (v := .agg (Kx.cells c)) ?h0x1t1 hS ?_
    case h0x1t1 => exact (fun w hw => run_loadK shX (x := .tmp 2) rfl rfl hw rfl)
    try simp only [Act.put, List.setIfInBounds_toArray, List.set_cons_zero, List.set_cons_succ]
    refine H.tk (i := 1) (v := (Value.slice none 0 0)) (fun w _ => rfl) hS ?_
    try simp only [Act.put, List.setIfInBounds_toArray, List.set_cons_zero, List.set_cons_succ]
    refine H.one (i := 2) (by simp only [List.getElem?_toArray, List.getElem?_cons_succ, List.getElem?_cons_zero]; rfl) (by kernel_rfl) (by kernel_rfl) (fun K hK => ?_)
    refine wp_store_row 25 _ _ rfl (w.heap.size + 1 + 1) (Kx.cells c) rfl rfl 25 Kx.zero.cells R0.out infoX rfl (oneX _) ?_
    refine hK.out _ _ (hS.row (by omega) _) ?_
    clear hK K
    have hS := (show Bk 25 (Z0.setRow (w.heap.size + 1 + 1) (Kx.cells c)) w.heap.size (Kx.cells c) from hS.row (by omega) _)
    try simp only [Act.put]
    refine H.tk (i := 3) (v := (Value.int IntKind.i64 1)) (fun w _ => rfl) hS ?_
    try simp only [Act.put, List.setIfInBounds_toArray, List.set_cons_zero, List.set_cons_succ]
    refine wpAnyH_done (by kernel_rfl) ?_ _
    go_wp2_with fail
    exact bodyPost_ret (v := .tuple #[.slice none 0 0, .agg (Kx.cells c), .int .i64 1]) (results_mid (ty := 25) rfl _ _ (w.heap.size + 1 + 1) (.agg (Kx.cells c)) (.slice none 0 0) rfl rfl (loadVarK shX (R0.out.put (Kx.cells c)) rfl) (.int .i64 1) rfl) rfl (AnsW.no HY.out (Box.below_setRow HB.out (by omega) _))
  rw [ho] at P1
  by_cases k : m.kind = 11
  · obtain ⟨ls, cf, er, hq⟩ : ∃ a b d, updP c m = (a, b, d) := ⟨_, _, _, rfl⟩
    have HY := Lib.hid (show tlvP c m = (ls, cf, er) by unfold tlvP; rw [ho, if_pos rfl, hq])
    have hu := ok_u ho k
    have PU := Lib.hid (fun V (y : m.In V) => (update_any c m V y ln lb hc hu).mono (fun e w' x => AnsW.said x hq))
    clear ho hc lb ln hp hu hq
    go_enter Tryz.func14, Tryz.ntmps14
    go_upto_region 1 with fail
    change Code.wp _ _ _ _ (((w.alloc (.cells c.cells 25)).alloc (.cells m.cells 29)).alloc (.cells Kx.zero.cells 25))
    have D := Lib.hid ((Us.start w c m hm).call (balloc (Below.refl _ _) (.cells Kx.zero.cells 25)))
    have R0 := Lib.hid (res_new w c m)
    clear hm
    generalize ((w.alloc (.cells c.cells 25)).alloc (.cells m.cells 29)).alloc (.cells Kx.zero.cells 25) = V at *
    go_wp2_with (first | (refine wpList_loadM (b := w.heap.size + 1) (m := m) rfl _ rfl rfl D.out.m0 ?_))
    refine (P1.out _ D.out.i (HT.out.below D.out.bel)).mono ?_
    rintro r w1 ⟨rfl, hb⟩
    have D := Lib.hid (D.out.call hb)
    have R0 := Lib.hid (R0.out.below hb)
    clear hb P1
    generalize w1 = V at *
    have c0 := D.out.m0.cs.c0
    rw [k] at c0
    clear k
    have hzV : w.heap.size + 1 + 1 < V.heap.size := R0.out.lt
    go_wp2_with (first | (refine wpList_loadX (b := w.heap.size) (m := c) rfl _ rfl rfl D.out.s0 ?_) | (refine wpList_loadM (b := w.heap.size + 1) (m := m) rfl _ rfl rfl D.out.m0 ?_))
    refine (PU.out _ D.out.i).mono ?_
    rintro r w2 ⟨qa, qk, rfl, hl, hb⟩
    have D := Lib.hid (D.out.call hb)
    have R0 := Lib.hid (R0.out.below hb)
    have HL := Lib.hid hl
    clear hb hl PU c0
    go_wp2_with (first | (refine wpList_storeX (b := w.heap.size + 1 + 1) (m := Kx.zero) (m' := cf) rfl _ _ rfl rfl rfl R0.out ?_))
    exact bodyPost_ret (v := .tuple #[.slice qa ls.length qk, .agg (Kx.cells cf), .int .i64 er]) (results_mid (ty := 25) rfl _ _ (w.heap.size + 1 + 1) (.agg (Kx.cells cf)) (.slice qa ls.length qk) rfl rfl (loadVarK shX (R0.out.put (Kx.cells cf)) rfl) (.int .i64 er) rfl) rfl (by rw [HY.out]; exact ⟨qa, qk, rfl, (HL.out.under hzV _).mono (by omega), Box.below_setRow D.out.bel (by omega) _⟩)
  have PA := Lib.hid (fun V (y : m.In V) (z : Tab V) => alone_any m V y ln lb hp z ho k)
  have HY := Lib.hid (show tlvP c m = ([⟨(enc1 (othE m)).toArray⟩], c, 0) by
    unfold tlvP updP elsL ctxL badC
    rw [ho, if_pos rfl, decide_eq_false k, if_neg k, if_neg k]
    rfl)
  generalize (⟨(enc1 (othE m)).toArray⟩ : ByteArray) = x at *
  have e11 : (m.kind == 11) = false := by simpa using k
  clear ho hc lb ln hp k
  go_enter Tryz.func14, Tryz.ntmps14
  go_upto_region 1 with fail
  change Code.wp _ _ _ _ (((w.alloc (.cells c.cells 25)).alloc (.cells m.cells 29)).alloc (.cells Kx.zero.cells 25))
  have D := Lib.hid ((Us.start w c m hm).call (balloc (Below.refl _ _) (.cells Kx.zero.cells 25)))
  have R0 := Lib.hid (res_new w c m)
  clear hm
  generalize ((w.alloc (.cells c.cells 25)).alloc (.cells m.cells 29)).alloc (.cells Kx.zero.cells 25) = V at *
  go_wp2_with (first | (refine wpList_loadM (b := w.heap.size + 1) (m := m) rfl _ rfl rfl D.out.m0 ?_))
  refine (P1.out _ D.out.i (HT.out.below D.out.bel)).mono ?_
  rintro r w1 ⟨rfl, hb⟩
  have D := Lib.hid (D.out.call hb)
  have R0 := Lib.hid (R0.out.below hb)
  clear hb P1
  generalize w1 = V at *
  have c0 := D.out.m0.cs.c0
  have hzV : w.heap.size + 1 + 1 < V.heap.size := R0.out.lt
  go_upto_region 5 with fail
  have HT := Lib.hid (HT.out.below D.out.bel.drew)
  have R0 := Lib.hid (show Bk 25 V.drew (w.heap.size + 1 + 1) Kx.zero.cells from R0.out)
  refine wp_region_held_drew (S := fun W => Us w c m W) (by kernel_rfl) D.out.drew (fun hS => ?_)
  have hzV : w.heap.size + 1 + 1 < V.drew.heap.size := hzV
  clear D c0 e11
  generalize V.drew = X0 at *
  refine H.tk (i := 0) (v := .agg (M.cells m)) ?h0x1 hS ?_
  case h0x1 => exact (fun w hw => run_loadM (x := .tmp 3) rfl rfl hw.m0)
  try simp only [Act.put, List.setIfInBounds_toArray, List.set_cons_zero, List.set_cons_succ]
  refine H.tk (i := 3) (v := .agg (Kx.cells c)) ?h3x2 hS ?_
  case h3x2 => exact (fun w hw => run_loadK shX (x := .tmp 2) rfl rfl hw.s0 rfl)
  try simp only [Act.put, List.setIfInBounds_toArray, List.set_cons_zero, List.set_cons_succ]
  refine H.one (i := 1) (by simp only [List.getElem?_toArray, List.getElem?_cons_succ, List.getElem?_cons_zero]; rfl) (by kernel_rfl) (by kernel_rfl) (fun K hK => ?_)
  go_simp
  refine (PA.out _ hS.i HT.out).mono ?_
  rintro e X1 ⟨rfl, hb⟩
  have hS' := hS.call hb
  have R0 := Lib.hid (R0.out.below hb)
  have hz1 := hb.size
  refine hK.out _ _ hS' ?_
  clear hK K hb hS
  have hS := hS'
  clear hS'
  try simp only [Act.put, List.setIfInBounds_toArray, List.set_cons_zero, List.set_cons_succ]
  refine H.one (i := 2) (by simp only [List.getElem?_toArray, List.getElem?_cons_succ, List.getElem?_cons_zero]; rfl) (by kernel_rfl) (by kernel_rfl) (fun K hK => ?_)
  refine wp_valW rfl (ex_bs (s := x) rfl rfl) ?_
  have bel := balloc (Below.refl X1.heap.size X1) (.cells #[.string x] 9)
  have hS' := hS.call bel
  have R0 := Lib.hid (R0.out.below bel)
  refine hK.out _ _ hS' ?_
  have HL := Lib.hid (Js.one_new x X1)
  clear hK K hS bel
  have hS := hS'
  clear hS'
  generalize X1.alloc (.cells #[.string x] 9) = X2 at *
  have hzX : w.heap.size + 1 + 1 < X1.heap.size := by omega
  clear hz1
  generalize X1.heap.size = g8 at *
  try simp only [Act.put, List.setIfInBounds_toArray, List.set_cons_zero, List.set_cons_succ]
  refine H.tk (i := 4) (v := .slice (some ⟨g8, 0, none⟩) 1 1) ?h4x3 hS ?_
  case h4x3 => exact (fun w hw => by go_simp)
  try simp only [Act.put, List.setIfInBounds_toArray, List.set_cons_zero, List.set_cons_succ]
  refine H.one (i := 5) (by simp only [List.getElem?_toArray, List.getElem?_cons_succ, List.getElem?_cons_zero]; rfl) (by kernel_rfl) (by kernel_rfl) (fun K hK => ?_)
  refine wp_store_row 25 _ _ rfl (w.heap.size + 1 + 1) (Kx.cells c) rfl rfl 25 Kx.zero.cells R0.out infoX rfl (oneX _) ?_
  refine hK.out _ _ (hS.row (by omega) _) ?_
  clear hK K
  have hS := (show Us w c m (X2.setRow (w.heap.size + 1 + 1) (Kx.cells c)) from hS.row (by omega) _)
  try simp only [Act.put]
  refine H.tk (i := 6) (v := (Value.int IntKind.i64 0)) (fun w _ => rfl) hS ?_
  try simp only [Act.put, List.setIfInBounds_toArray, List.set_cons_zero, List.set_cons_succ]
  refine wpAnyH_done (by kernel_rfl) ?_ _
  go_wp2_with fail
  exact bodyPost_ret (v := .tuple #[.slice (some ⟨g8, 0, none⟩) 1 1, .agg (Kx.cells c), .int .i64 0]) (results_mid (ty := 25) rfl _ _ (w.heap.size + 1 + 1) (.agg (Kx.cells c)) (.slice (some ⟨g8, 0, none⟩) 1 1) rfl rfl (loadVarK shX (R0.out.put (Kx.cells c)) rfl) (.int .i64 0) rfl) rfl (by rw [HY.out]; exact ⟨_, 1, rfl, (HL.out.under (by omega) _).mono (by omega), hS.bel⟩)
set_option maxHeartbeats 25600000 in
set_option maxRecDepth 100000 in
theorem put_any (c : Kx) (m : M) (w : World) (hm : m.In w) (ln : m.sl.length ≤ 2000) (lb : ∀ x ∈ m.sl, x.1.size ≤ 1099511627776) (hp : m.pfx.size ≤ maxLen) (hc : okC c = true) (ht : Tab w) : Calls Tryz.prog 7 #[.agg c.cells, .agg m.cells] w fun e w' => e = .returned (.tuple #[.string (putL c m).1, .agg (putL c m).2.1.cells, .int .i64 (putL c m).2.2]) ∧ Below w.heap.size w w' := by
  have hsz := tlv_size c m
  have hq := put_tlv c m
  have PT := fun V (y : m.In V) (z : Tab V) => tlvs_any c m V y ln lb hp hc z
  obtain ⟨ls, cf, er, he⟩ : ∃ a b d, tlvP c m = (a, b, d) := ⟨_, _, _, rfl⟩
  rw [he] at hsz hq PT
  rw [hq]
  have HSZ := Lib.hid (show ls.length ≤ 1000 ∧ (flat ls).length ≤ 1000000 from hsz)
  have PT := Lib.hid (fun V (y : m.In V) (z : Tab V) => (PT V y z).mono (fun e w' x => AnsW.said x rfl))
  have HT := Lib.hid ht
  clear hsz hq he ln lb hp hc ht
  show Calls _ _ _ _ fun e w' => e = .returned (.tuple #[.string (catJ ls), .agg cf.cells, .int .i64 er]) ∧ Below w.heap.size w w'
  go_enter Tryz.func7, Tryz.ntmps7
  go_upto_region 1 with fail
  change Code.wp _ _ _ _ (((w.alloc (.cells c.cells 25)).alloc (.cells m.cells 29)).alloc (.cells Kx.zero.cells 25))
  have D := Lib.hid ((Us.start w c m hm).call (balloc (Below.refl _ _) (.cells Kx.zero.cells 25)))
  have R0 := Lib.hid (res_new w c m)
  clear hm
  generalize ((w.alloc (.cells c.cells 25)).alloc (.cells m.cells 29)).alloc (.cells Kx.zero.cells 25) = V at *
  have hzV : w.heap.size + 1 + 1 < V.heap.size := R0.out.lt
  go_wp2_with (first | (refine wpList_loadX (b := w.heap.size) (m := c) rfl _ rfl rfl D.out.s0 ?_) | (refine wpList_loadM (b := w.heap.size + 1) (m := m) rfl _ rfl rfl D.out.m0 ?_))
  refine (PT.out _ D.out.i (HT.out.below D.out.bel)).mono ?_
  rintro r w1 ⟨qa, qk, rfl, hl, hb⟩
  have D := Lib.hid (D.out.call hb)
  have R0 := Lib.hid (R0.out.below hb)
  have HL := Lib.hid hl
  have hz1 := hb.size
  clear hl hb PT
  go_upto_region 2 with (refine wpList_storeX (b := w1.heap.size) (m := Kx.zero) (m' := cf) rfl _ _ rfl rfl rfl (Bk.Bk.new 25 w1 Kx.zero.cells) ?_)
  change Code.wp _ _ _ _ ((w1.alloc (.cells Kx.zero.cells 25)).setRow w1.heap.size (Kx.cells cf))
  rw [World.setRow_alloc_new]
  have bel := balloc (Below.refl w1.heap.size w1) (.cells (Kx.cells cf) 25)
  have D := Lib.hid (D.out.call bel)
  have S1 := Lib.hid (Bk.Bk.new 25 w1 (Kx.cells cf))
  have R0 := Lib.hid (R0.out.below bel)
  have HL := Lib.hid (HL.out.below bel)
  have hgz : w.heap.size + 1 + 1 < w1.heap.size := by omega
  clear bel hz1
  generalize w1.alloc (.cells (Kx.cells cf) 25) = V2 at *
  generalize w1.heap.size = g at *
  have R0 := Lib.hid (show Bk 25 V2.drew (w.heap.size + 1 + 1) Kx.zero.cells from R0.out)
  have HB := Lib.hid (show Below w.heap.size w V2.drew from D.out.bel.drew)
  refine wp_region_held_drew (S := fun X => Lst V.heap.size X (.slice qa ls.length qk) ls ∧ Bk 25 X g cf.cells) (by kernel_rfl) ⟨HL.out.below (Below.refl _ V2).drew, S1.out⟩ (fun hS => ?_)
  clear D HL S1
  generalize V2.drew = X0 at *
  refine H.tk (i := 0) (v := .slice qa ls.length qk) ?h0x1v hS ?_
  case h0x1v => exact (fun w hw => by go_simp)
  try simp only [Act.put, List.setIfInBounds_toArray, List.set_cons_zero, List.set_cons_succ]
  refine H.tk (i := 2) (v := .agg (Kx.cells cf)) ?h2x2v hS ?_
  case h2x2v => exact (fun w hw => run_loadK shX (x := .tmp 8) rfl rfl hw.2 rfl)
  try simp only [Act.put, List.setIfInBounds_toArray, List.set_cons_zero, List.set_cons_succ]
  refine H.tk (i := 3) (v := .int .i64 er) ?h3x3v hS ?_
  case h3x3v => exact (fun w hw => by go_simp)
  try simp only [Act.put, List.setIfInBounds_toArray, List.set_cons_zero, List.set_cons_succ]
  refine H.one (i := 1) (by simp only [List.getElem?_toArray, List.getElem?_cons_succ, List.getElem?_cons_zero]; rfl) (by kernel_rfl) (by kernel_rfl) (fun K hK => ?_)
  go_simp
  refine (Js.join_any qa qk ls _ hS.1 HSZ.out.1 HSZ.out.2).mono ?_
  rintro e X1 ⟨rfl, hb⟩
  have hS' := And.intro (hS.1.below hb) (hS.2.below hb)
  have R0 := Lib.hid (R0.out.below hb)
  have HB := Lib.hid (bcall HB.out hb)
  refine hK.out _ _ hS' ?_
  clear hK K hb hS
  have hS := hS'
  clear hS'
  try simp only [Act.put, List.setIfInBounds_toArray, List.set_cons_zero, List.set_cons_succ]
  refine H.tk (i := 4) (v := .string (catJ ls)) ?h4x4v hS ?_
  case h4x4v => exact (fun w hw => by go_simp)
  try simp only [Act.put, List.setIfInBounds_toArray, List.set_cons_zero, List.set_cons_succ]
  refine H.one (i := 5) (by simp only [List.getElem?_toArray, List.getElem?_cons_succ, List.getElem?_cons_zero]; rfl) (by kernel_rfl) (by kernel_rfl) (fun K hK => ?_)
  refine wp_store_row 25 _ _ rfl (w.heap.size + 1 + 1) (Kx.cells cf) rfl rfl 25 Kx.zero.cells R0.out infoX rfl (oneX _) ?_
  refine hK.out _ _ ⟨hS.1.under hzV _, hS.2.row (by omega) _⟩ ?_
  clear hK K
  have hS := (show Lst V.heap.size (X1.setRow (w.heap.size + 1 + 1) (Kx.cells cf)) (.slice qa ls.length qk) ls ∧ Bk 25 (X1.setRow (w.heap.size + 1 + 1) (Kx.cells cf)) g cf.cells from ⟨hS.1.under hzV _, hS.2.row (by omega) _⟩)
  try simp only [Act.put]
  refine H.tk (i := 6) (v := .int .i64 er) ?h6x5v hS ?_
  case h6x5v => exact (fun w hw => by go_simp)
  try simp only [Act.put, List.setIfInBounds_toArray, List.set_cons_zero, List.set_cons_succ]
  refine wpAnyH_done (by kernel_rfl) ?_ _
  go_wp2_with fail
  exact bodyPost_ret (v := .tuple #[.string (catJ ls), .agg (Kx.cells cf), .int .i64 er]) (results_mid (ty := 25) rfl _ _ (w.heap.size + 1 + 1) (.agg (Kx.cells cf)) (.string (catJ ls)) rfl rfl (loadVarK shX (R0.out.put (Kx.cells cf)) rfl) (.int .i64 er) rfl) rfl ⟨rfl, Box.below_setRow HB.out (by omega) _⟩
end Go.Proofs.YtbfjebfodaoikaaGreatDoor.Lv
namespace Go.Proofs.YtbfjebfodaoikaaGreatDoor.La
open Go.ChangeShapes Go.WideShapes Go.ChangeAt Go.RowKit
open Go.Proofs.YtbfjebfodaoikaaGreatDoor.Ms
open Go.Proofs.YtbfjebfodaoikaaGreatDoor.Box
open Go.Proofs.YtbfjebfodaoikaaGreatDoor.An
open Go.Proofs.YtbfjebfodaoikaaGreatDoor.Tc
open Go.Proofs.YtbfjebfodaoikaaGreatDoor.J1
open Go.Proofs.YtbfjebfodaoikaaGreatDoor.K1
open Go.Proofs.YtbfjebfodaoikaaGreatDoor.Kb
open Go.Proofs.YtbfjebfodaoikaaGreatDoor.L1
open Go.Proofs.YtbfjebfodaoikaaGreatDoor.L2
open Go.Proofs.YtbfjebfodaoikaaGreatDoor.F1 (encT)
open Go.Proofs.YtbfjebfodaoikaaGreatDoor.Bk (Bk alloc_size wpList_builtK run_loadK)
open Go.Proofs.YtbfjebfodaoikaaGreatDoor.Hs
open Go.Proofs.YtbfjebfodaoikaaGreatDoor.Or (st_yes)
set_option linter.unusedVariables false
set_option maxRecDepth 100000
set_option maxRecDepth 100000
theorem bytes_same (a : ByteArray) : (a.toList == a.toList) = true := by simp
def i0 : ByteArray := ⟨#[97, 98, 99, 100, 101, 102, 103, 104]⟩
def a0 : ByteArray := ⟨#[10, 1, 7, 0]⟩
def c0 : Kx := ⟨⟨#[]⟩, ⟨#[10, 1, 2, 0]⟩, ⟨#[]⟩, ⟨#[]⟩, ⟨#[]⟩, ⟨#[]⟩, i0⟩
def c1 : Kx := { c0 with p1 := a0 }
def m0 : M := { M.zero with kind := 11, ae := 1, pfx := a0, plen := 24, interval := 1, seq := 2, metric := 3, id := i0 }
def s0 : ByteArray := ⟨#[8, 11, 1, 128, 24, 2, 0, 1, 0, 2, 0, 3, 7]⟩
theorem ok_c : okC c0 = true := by decide
theorem bare_0 : bare m0 = true := by
  unfold bare
  rw [(K1.is_11 (m := m0) rfl).1, (K1.is_11 (m := m0) rfl).2]
  unfold M.same M.flatE Own.k11 m0 M.zero
  simp
theorem ok_u : okU m0 = true := by
  unfold okU
  rw [bare_0]
  decide +kernel
theorem ok_m : okL m0 = true := by unfold okL; rw [ok_u]; simp
theorem bad_0 : badC c0 m0 = false := by decide +kernel
theorem om_0 : omN c0 m0 = 2 := by
  unfold omN
  rw [if_neg (by decide)]
  decide +kernel
theorem els_0 : elsL c0 m0 = [(updD m0 2, 8)] := by
  unfold elsL wayE
  rw [if_pos (show m0.kind = 11 from rfl), if_neg (show ¬ m0.metric = 65535 by decide), if_pos (show m0.id = c0.id from rfl), if_pos (show m0.next = c0.nx (fam m0.ae) from rfl), om_0]
  rfl
theorem ctx_0 : ctxL c0 m0 = c1 := by
  unfold ctxL wayC knowP
  rw [if_pos (show m0.kind = 11 from rfl), if_neg (show ¬ m0.metric = 65535 by decide), if_neg (show ¬ m0.ae = 0 by decide)]
  rfl
theorem put_0 : putL c0 m0 = (s0, c1, 0) := by
  unfold putL
  rw [ok_m, bad_0, if_pos rfl, if_neg (by decide), els_0, ctx_0]
  rfl
theorem in_0 (V : World) : m0.In V := ⟨DRow.nil _ _, SRow.nil _ _, Nat.zero_le _, Nat.zero_le _⟩
set_option maxHeartbeats 12800000 in
theorem awake_any (w : World) (ht : Tab w) : Calls Tryz.prog 6 #[] w fun e w' => e = .returned (.bool true) ∧ Below w.heap.size w w' := by
  have P1 := Lib.hid (fun V (y : Tab V) => Lv.put_any c0 m0 V (in_0 V) (Nat.zero_le _) (fun x hx => absurd hx (by show ¬ x ∈ ([] : List El); simp)) (by show (4 : Nat) ≤ maxLen; decide) ok_c y)
  rw [put_0] at P1
  have P2 := Lib.hid (fun V (y : Tab V) => L5.right_any m0 V (in_0 V) (fun x hx => absurd hx (by show ¬ x ∈ ([] : List El); simp)) (by show (4 : Nat) ≤ maxLen; decide) y)
  rw [ok_m] at P2
  have HT := Lib.hid ht
  clear ht
  go_enter Tryz.func6, Tryz.ntmps6
  go_upto_region 2 with (first | (refine wpList_builtK rfl 22 _ rfl #[.string ⟨#[]⟩, .string ⟨#[10, 1, 2, 0]⟩, .string ⟨#[]⟩, .string ⟨#[]⟩] (by kernel_rfl) ?_) | (refine wpList_builtK rfl 25 _ rfl c0.cells (by kernel_rfl) ?_) | (refine wpList_storeX (b := w.heap.size) (m := Kx.zero) (m' := c0) rfl _ _ rfl rfl rfl (Bk.Bk.new 25 w Kx.zero.cells) ?_))
  change Code.wp _ _ _ _ ((w.alloc (.cells Kx.zero.cells 25)).setRow w.heap.size c0.cells)
  rw [World.setRow_alloc_new]
  have bel := balloc (Below.refl w.heap.size w) (.cells c0.cells 25)
  have S0 := Lib.hid (Bk.Bk.new 25 w c0.cells)
  have HB := Lib.hid bel
  clear bel
  generalize w.alloc (.cells c0.cells 25) = V at *
  go_upto_region 3 with (first | (refine wpList_builtK rfl 29 _ rfl (M.cells m0) (by kernel_rfl) ?_) | (refine wpList_storeM (b := V.heap.size) (m := M.zero) (m' := m0) rfl _ _ rfl rfl rfl (Bx.new V M.zero) ?_))
  change Code.wp _ _ _ _ ((V.alloc (.cells M.zero.cells 29)).setRow V.heap.size m0.cells)
  rw [World.setRow_alloc_new]
  have bel := balloc (Below.refl V.heap.size V) (.cells m0.cells 29)
  have S0 := Lib.hid (S0.out.below bel)
  have M0 := Lib.hid (Bx.new V m0)
  have HB := Lib.hid (bcall HB.out bel)
  clear bel
  generalize V.alloc (.cells m0.cells 29) = V2 at *
  generalize V.heap.size = g at *
  go_wp2_with (first | (refine wpList_loadX (b := w.heap.size) (m := c0) rfl _ rfl rfl S0.out ?_) | (refine wpList_loadM (b := g) (m := m0) rfl _ rfl rfl M0.out ?_))
  refine (P1.out _ (HT.out.below HB.out)).mono ?_
  rintro e w1 ⟨rfl, hb⟩
  have HB := Lib.hid (bcall HB.out hb)
  have M0 := Lib.hid (M0.out.below hb)
  clear hb P1 S0
  go_upto_region 4 with (refine wpList_storeX (b := w1.heap.size) (m := Kx.zero) (m' := c1) rfl _ _ rfl rfl rfl (Bk.Bk.new 25 w1 Kx.zero.cells) ?_)
  change Code.wp _ _ _ _ ((w1.alloc (.cells Kx.zero.cells 25)).setRow w1.heap.size c1.cells)
  rw [World.setRow_alloc_new]
  have bel := balloc (Below.refl w1.heap.size w1) (.cells c1.cells 25)
  have S1 := Lib.hid (Bk.Bk.new 25 w1 c1.cells)
  have HB := Lib.hid (bcall HB.out bel)
  have M0 := Lib.hid (M0.out.below bel)
  clear bel
  generalize w1.alloc (.cells c1.cells 25) = V3 at *
  generalize w1.heap.size = g1 at *
  have s1 := S1.out.cell 1 (.string a0) rfl
  have c6 : V3.cell? ⟨g, 6, none⟩ = some (.string a0) := M0.out.cs.c6
  have q1 := bytes_same a0
  have q2 : (s0.toList == [8, 11, 1, 128, 24, 2, 0, 1, 0, 2, 0, 3, 7]) = true := by rw [ByteArray.toList_eq]; rfl
  generalize a0 = aa at *
  generalize s0 = ss at *
  go_wp2_with (first | (refine st_yes (v := .agg (M.cells m0)) (by rfl) rfl (run_loadM (x := .tmp 2) rfl rfl M0.out) ?_))
  refine (P2.out _ (HT.out.below HB.out)).mono ?_
  rintro e w3 ⟨rfl, hb⟩
  have HB := Lib.hid (bcall HB.out hb)
  clear hb P2 M0
  go_wp2
  go_ret
  exact ⟨rfl, HB.out⟩
end Go.Proofs.YtbfjebfodaoikaaGreatDoor.La
namespace Go.Proofs.YtbfjebfodaoikaaGreatDoor.Lc
open Go.ChangeShapes Go.WideShapes Go.ChangeAt Go.RowKit
open Go.Proofs.YtbfjebfodaoikaaGreatDoor.Ms
open Go.Proofs.YtbfjebfodaoikaaGreatDoor.Box
open Go.Proofs.YtbfjebfodaoikaaGreatDoor.An
open Go.Proofs.YtbfjebfodaoikaaGreatDoor.K1
open Go.Proofs.YtbfjebfodaoikaaGreatDoor.L2
open Go.Proofs.YtbfjebfodaoikaaGreatDoor.Cx
open Go.Proofs.YtbfjebfodaoikaaGreatDoor.Bk (Bk alloc_size)
open Go.Proofs.YtbfjebfodaoikaaGreatDoor.F1 (T encT placed outT out_yes)
set_option linter.unusedVariables false
set_option maxRecDepth 100000
set_option maxRecDepth 100000
/-- What the law's two boxes hold, behind where the call began. -/
structure Vs (w : World) (c : Kx) (m : M) (W : World) : Prop where
  s0 : Bk 25 W w.heap.size c.cells
  m0 : Bx W (w.heap.size + 1) m
  d : DRow W m.la m.ll
  s : SRow W m.sa m.sl
  bel : Below w.heap.size w W
theorem Vs.call {w V W : World} {c : Kx} {m : M} (h : Vs w c m V) (hb : Below V.heap.size V W) : Vs w c m W := ⟨h.s0.below hb, h.m0.below hb, h.d.below hb, h.s.below hb, bcall h.bel hb⟩
theorem Vs.start (w : World) (c : Kx) (m : M) (hd : DRow w m.la m.ll) (hs : SRow w m.sa m.sl) : Vs w c m ((w.alloc (.cells c.cells 25)).alloc (.cells m.cells 29)) := by
  have hb := balloc (balloc (Below.refl _ w) (.cells c.cells 25)) (.cells m.cells 29)
  refine ⟨(Bk.Bk.new 25 w c.cells).old _, ?_, hd.below hb, hs.below hb, hb⟩
  have := Bx.new (w.alloc (.cells c.cells 25)) m
  rw [alloc_size] at this
  exact this
theorem Vs.drew {w V : World} {c : Kx} {m : M} (h : Vs w c m V) : Vs w c m V.drew := h.call (Below.refl _ V).drew
end Go.Proofs.YtbfjebfodaoikaaGreatDoor.Lc
