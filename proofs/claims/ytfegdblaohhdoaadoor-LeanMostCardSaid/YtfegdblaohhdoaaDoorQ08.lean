/-
  Any message's TLVs, and its bytes: the program's tlvs and Put. Conditions: what is known may be; the message's lists stand in the world, and aren't long; the variables have what they are laid with.
  The document's example of layer 24. Condition: the variables have what they are laid with.
  The TLVs of bytes: the program's Split. Condition: at most 100000 bytes, from a place of at most 2^40 on.
  The TLVs of bytes: the document's Split. Condition: at most 100000 bytes, from a place of at most 2^40 on.
  Of an Update's prefix one byte more can't be left out. No conditions.
  What the laws of layer 24 share: the boxes of what is known and of a message; what Put's answer is, case by case; the last TLV of a list of a call's own. No conditions.
  Whether what is known may be: the document's answer. No condition.
-/
import Derived.Test.YtfegdblaohhdoaaDoorQ02
import Derived.Test.YtfegdblaohhdoaaDoorQ03
import Derived.Test.YtfegdblaohhdoaaDoorQ04
import Derived.Test.YtfegdblaohhdoaaDoorQ05
import Derived.Test.YtfegdblaohhdoaaDoorQ07
namespace Go.Proofs.YtfegdblaohhdoaaDoor.Lv
open Go.ChangeShapes Go.WideShapes Go.ChangeAt Go.RowKit
open Go.Proofs.YtfegdblaohhdoaaDoor.Ms
open Go.Proofs.YtfegdblaohhdoaaDoor.Box
open Go.Proofs.YtfegdblaohhdoaaDoor.An
open Go.Proofs.YtfegdblaohhdoaaDoor.Tc
open Go.Proofs.YtfegdblaohhdoaaDoor.J1
open Go.Proofs.YtfegdblaohhdoaaDoor.K1
open Go.Proofs.YtfegdblaohhdoaaDoor.Kb
open Go.Proofs.YtfegdblaohhdoaaDoor.L1
open Go.Proofs.YtfegdblaohhdoaaDoor.L2
open Go.Proofs.YtfegdblaohhdoaaDoor.L5
open Go.Proofs.YtfegdblaohhdoaaDoor.L6
open Go.Proofs.YtfegdblaohhdoaaDoor.Lw
open Go.Proofs.YtfegdblaohhdoaaDoor.Cx
open Go.Proofs.YtfegdblaohhdoaaDoor.F1 (enc1 enc1_len encT)
open Go.Proofs.YtfegdblaohhdoaaDoor.Bk (Bk alloc_size run_loadK loadVarK)
open Go.Proofs.YtfegdblaohhdoaaDoor.Js (Lst bs_one ex_bs cells_new infoT rowT catJ flat)
open Go.Proofs.YtfegdblaohhdoaaDoor.Hs
open Go.Proofs.YtfegdblaohhdoaaDoor.Hy
open Go.Proofs.YtfegdblaohhdoaaDoor.Or (st_yes)
set_option linter.unusedVariables false
set_option maxRecDepth 100000
open Go.Proofs.YtfegdblaohhdoaaDoor.Lu
/-- What Put answers is what tlvs does, joined. -/
theorem put_tlv (c : Kx) (m : M) : putL c m = (catJ (tlvP c m).1, (tlvP c m).2.1, (tlvP c m).2.2) := by
  unfold putL tlvP updP
  cases okL m
  · rfl
  rw [if_pos rfl, if_pos rfl]
  cases badC c m
  · rw [if_neg (by decide), if_neg (by decide)]
    show _ = (catJ (elB (elsL c m)), _, _)
    unfold catJ
    rw [elB_flat]
  · rfl
theorem els_size {c : Kx} {m : M} (h : okL m = true) (hb : badC c m = false) : (elsL c m).length ≤ 3 ∧ (encT (elsL c m)).length ≤ 1000 := by
  have h3 : (elsL c m).length ≤ 3 := by
    unfold elsL
    split
    · have := way_len c m
      rw [elB_len] at this
      rw [List.length_append]
      exact Nat.add_le_add_right this 1
    · exact (by decide : 1 ≤ 3)
  refine ⟨h3, ?_⟩
  have ho := els_ok h hb
  generalize elsL c m = l at *
  have h1 : ∀ x : F1.El, F1.ok1 x → (enc1 x).length ≤ 257 := fun x hx => by
    rw [enc1_len]
    have := hx.2.2.1
    split <;> omega
  clear h hb
  match l, h3, ho with
  | [], _, _ => exact (by decide : 0 ≤ 1000)
  | [x], _, ho => have := h1 x (ho x (by simp)); unfold encT; simp only [List.flatMap_cons, List.flatMap_nil, List.append_nil]; omega
  | [x, y], _, ho => have := h1 x (ho x (by simp)); have := h1 y (ho y (by simp)); unfold encT; simp only [List.flatMap_cons, List.flatMap_nil, List.append_nil, List.length_append]; omega
  | [x, y, z], _, ho => have := h1 x (ho x (by simp)); have := h1 y (ho y (by simp)); have := h1 z (ho z (by simp)); unfold encT; simp only [List.flatMap_cons, List.flatMap_nil, List.append_nil, List.length_append]; omega
theorem tlv_size (c : Kx) (m : M) : (tlvP c m).1.length ≤ 1000 ∧ (flat (tlvP c m).1).length ≤ 1000000 := by
  unfold tlvP updP
  cases ho : okL m
  · exact ⟨Nat.zero_le _, Nat.zero_le _⟩
  rw [if_pos rfl]
  cases hb : badC c m
  · rw [if_neg (by decide)]
    show (elB (elsL c m)).length ≤ 1000 ∧ (flat (elB (elsL c m))).length ≤ 1000000
    rw [elB_len, elB_flat]
    obtain ⟨h1, h2⟩ := els_size ho hb
    omega
  · exact ⟨Nat.zero_le _, Nat.zero_le _⟩
set_option maxHeartbeats 25600000 in
set_option maxRecDepth 100000 in
theorem tlvs_any (c : Kx) (m : M) (w : World) (hm : m.In w) (ln : m.sl.length ≤ 2000) (lb : ∀ x ∈ m.sl, x.1.size ≤ 1099511627776) (hp : m.pfx.size ≤ maxLen) (hc : okC c = true) (ht : Tab w) : Calls Tryd.prog 11 #[.agg c.cells, .agg m.cells] w (AnsW (tlvP c m) w) := by
  have P1 := Lib.hid (fun V (y : m.In V) (z : Tab V) => L5.right_any m V y lb hp z)
  have HT := Lib.hid ht
  clear ht
  cases ho : okL m
  · have HY := Lib.hid (show tlvP c m = ([], c, 1) by unfold tlvP; rw [ho]; rfl)
    rw [ho] at P1
    clear ho hc lb ln hp
    go_enter Tryd.func11, Tryd.ntmps11
    go_upto_region 1 with fail
    change Code.wp _ _ _ _ (((w.alloc (.cells c.cells 25)).alloc (.cells m.cells 29)).alloc (.cells Kx.zero.cells 25))
    have D := Lib.hid ((Us.start w c m hm).call (balloc (Below.refl _ _) (.cells Kx.zero.cells 25)))
    have R0 := Lib.hid (res_new w c m)
    clear hm
    generalize ((w.alloc (.cells c.cells 25)).alloc (.cells m.cells 29)).alloc (.cells Kx.zero.cells 25) = V at *
    go_wp2_with (first | (refine wpList_loadM (b := w.heap.size + 1) (m := m) rfl _ rfl rfl D.out.m0 ?_))
    refine (P1.out _ D.out.i (HT.out.below D.out.bel)).mono ?_
    rintro r w1 ⟨rfl, hb⟩
    have D := Lib.hid (D.out.call hb)
    have R0 := Lib.hid (R0.out.below hb)
    clear hb P1
    generalize w1 = V at *
    go_upto_region 2 with fail
    have R0 := Lib.hid (show Bk 25 V.drew (w.heap.size + 1 + 1) Kx.zero.cells from R0.out)
    have HB := Lib.hid (show Below w.heap.size w V.drew from D.out.bel.drew)
    refine wp_region_held_drew (S := fun X => Bk 25 X w.heap.size (Kx.cells c)) (by kernel_rfl) (D.out.s0) (fun hS => ?_)
    clear D
    generalize V.drew = Z0 at *
    refine H.tk (i := 0) (v := .agg (Kx.cells c)) ?h0x1t1 hS ?_
    case h0x1t1 => exact (fun w hw => run_loadK shX (x := .tmp 2) rfl rfl hw rfl)
    try simp only [Act.put, List.setIfInBounds_toArray, List.set_cons_zero, List.set_cons_succ]
    refine H.tk (i := 1) (v := (Value.slice none 0 0)) (fun w _ => rfl) hS ?_
    try simp only [Act.put, List.setIfInBounds_toArray, List.set_cons_zero, List.set_cons_succ]
    refine H.one (i := 2) (by simp only [List.getElem?_toArray, List.getElem?_cons_succ, List.getElem?_cons_zero]; rfl) (by kernel_rfl) (by kernel_rfl) (fun K hK => ?_)
    refine wp_store_row 25 _ _ rfl (w.heap.size + 1 + 1) (Kx.cells c) rfl rfl 25 Kx.zero.cells R0.out infoX rfl (oneX _) ?_
    refine hK.out _ _ (hS.row (by omega) _) ?_
    clear hK K
    have hS := (show Bk 25 (Z0.setRow (w.heap.size + 1 + 1) (Kx.cells c)) w.heap.size (Kx.cells c) from hS.row (by omega) _)
    try simp only [Act.put]
    refine H.tk (i := 3) (v := (Value.int IntKind.i64 1)) (fun w _ => rfl) hS ?_
    try simp only [Act.put, List.setIfInBounds_toArray, List.set_cons_zero, List.set_cons_succ]
    refine wpAnyH_done (by kernel_rfl) ?_ _
    go_wp2_with fail
    exact bodyPost_ret (v := .tuple #[.slice none 0 0, .agg (Kx.cells c), .int .i64 1]) (results_mid (ty := 25) rfl _ _ (w.heap.size + 1 + 1) (.agg (Kx.cells c)) (.slice none 0 0) rfl rfl (loadVarK shX (R0.out.put (Kx.cells c)) rfl) (.int .i64 1) rfl) rfl (AnsW.no HY.out (Box.below_setRow HB.out (by omega) _))
  rw [ho] at P1
  by_cases k : m.kind = 11
  · obtain ⟨ls, cf, er, hq⟩ : ∃ a b d, updP c m = (a, b, d) := ⟨_, _, _, rfl⟩
    have HY := Lib.hid (show tlvP c m = (ls, cf, er) by unfold tlvP; rw [ho, if_pos rfl, hq])
    have hu := ok_u ho k
    have PU := Lib.hid (fun V (y : m.In V) => (update_any c m V y ln lb hc hu).mono (fun e w' x => AnsW.said x hq))
    clear ho hc lb ln hp hu hq
    go_enter Tryd.func11, Tryd.ntmps11
    go_upto_region 1 with fail
    change Code.wp _ _ _ _ (((w.alloc (.cells c.cells 25)).alloc (.cells m.cells 29)).alloc (.cells Kx.zero.cells 25))
    have D := Lib.hid ((Us.start w c m hm).call (balloc (Below.refl _ _) (.cells Kx.zero.cells 25)))
    have R0 := Lib.hid (res_new w c m)
    clear hm
    generalize ((w.alloc (.cells c.cells 25)).alloc (.cells m.cells 29)).alloc (.cells Kx.zero.cells 25) = V at *
    go_wp2_with (first | (refine wpList_loadM (b := w.heap.size + 1) (m := m) rfl _ rfl rfl D.out.m0 ?_))
    refine (P1.out _ D.out.i (HT.out.below D.out.bel)).mono ?_
    rintro r w1 ⟨rfl, hb⟩
    have D := Lib.hid (D.out.call hb)
    have R0 := Lib.hid (R0.out.below hb)
    clear hb P1
    generalize w1 = V at *
    have c0 := D.out.m0.cs.c0
    rw [k] at c0
    clear k
    have hzV : w.heap.size + 1 + 1 < V.heap.size := R0.out.lt
    go_wp2_with (first | (refine wpList_loadX (b := w.heap.size) (m := c) rfl _ rfl rfl D.out.s0 ?_) | (refine wpList_loadM (b := w.heap.size + 1) (m := m) rfl _ rfl rfl D.out.m0 ?_))
    refine (PU.out _ D.out.i).mono ?_
    rintro r w2 ⟨qa, qk, rfl, hl, hb⟩
    have D := Lib.hid (D.out.call hb)
    have R0 := Lib.hid (R0.out.below hb)
    have HL := Lib.hid hl
    clear hb hl PU c0
    go_wp2_with (first | (refine wpList_storeX (b := w.heap.size + 1 + 1) (m := Kx.zero) (m' := cf) rfl _ _ rfl rfl rfl R0.out ?_))
    exact bodyPost_ret (v := .tuple #[.slice qa ls.length qk, .agg (Kx.cells cf), .int .i64 er]) (results_mid (ty := 25) rfl _ _ (w.heap.size + 1 + 1) (.agg (Kx.cells cf)) (.slice qa ls.length qk) rfl rfl (loadVarK shX (R0.out.put (Kx.cells cf)) rfl) (.int .i64 er) rfl) rfl (by rw [HY.out]; exact ⟨qa, qk, rfl, (HL.out.under hzV _).mono (by omega), Box.below_setRow D.out.bel (by omega) _⟩)
  have PA := Lib.hid (fun V (y : m.In V) (z : Tab V) => alone_any m V y ln lb hp z ho k)
  have HY := Lib.hid (show tlvP c m = ([⟨(enc1 (othE m)).toArray⟩], c, 0) by
    unfold tlvP updP elsL ctxL badC
    rw [ho, if_pos rfl, decide_eq_false k, if_neg k, if_neg k]
    rfl)
  generalize (⟨(enc1 (othE m)).toArray⟩ : ByteArray) = x at *
  have e11 : (m.kind == 11) = false := by simpa using k
  clear ho hc lb ln hp k
  go_enter Tryd.func11, Tryd.ntmps11
  go_upto_region 1 with fail
  change Code.wp _ _ _ _ (((w.alloc (.cells c.cells 25)).alloc (.cells m.cells 29)).alloc (.cells Kx.zero.cells 25))
  have D := Lib.hid ((Us.start w c m hm).call (balloc (Below.refl _ _) (.cells Kx.zero.cells 25)))
  have R0 := Lib.hid (res_new w c m)
  clear hm
  generalize ((w.alloc (.cells c.cells 25)).alloc (.cells m.cells 29)).alloc (.cells Kx.zero.cells 25) = V at *
  go_wp2_with (first | (refine wpList_loadM (b := w.heap.size + 1) (m := m) rfl _ rfl rfl D.out.m0 ?_))
  refine (P1.out _ D.out.i (HT.out.below D.out.bel)).mono ?_
  rintro r w1 ⟨rfl, hb⟩
  have D := Lib.hid (D.out.call hb)
  have R0 := Lib.hid (R0.out.below hb)
  clear hb P1
  generalize w1 = V at *
  have c0 := D.out.m0.cs.c0
  have hzV : w.heap.size + 1 + 1 < V.heap.size := R0.out.lt
  go_upto_region 5 with fail
  have HT := Lib.hid (HT.out.below D.out.bel.drew)
  have R0 := Lib.hid (show Bk 25 V.drew (w.heap.size + 1 + 1) Kx.zero.cells from R0.out)
  refine wp_region_held_drew (S := fun W => Us w c m W) (by kernel_rfl) D.out.drew (fun hS => ?_)
  have hzV : w.heap.size + 1 + 1 < V.drew.heap.size := hzV
  clear D c0 e11
  generalize V.drew = X0 at *
  refine H.tk (i := 0) (v := .agg (M.cells m)) ?h0x1 hS ?_
  case h0x1 => exact (fun w hw => run_loadM (x := .tmp 3) rfl rfl hw.m0)
  try simp only [Act.put, List.setIfInBounds_toArray, List.set_cons_zero, List.set_cons_succ]
  refine H.tk (i := 3) (v := .agg (Kx.cells c)) ?h3x2 hS ?_
  case h3x2 => exact (fun w hw => run_loadK shX (x := .tmp 2) rfl rfl hw.s0 rfl)
  try simp only [Act.put, List.setIfInBounds_toArray, List.set_cons_zero, List.set_cons_succ]
  refine H.one (i := 1) (by simp only [List.getElem?_toArray, List.getElem?_cons_succ, List.getElem?_cons_zero]; rfl) (by kernel_rfl) (by kernel_rfl) (fun K hK => ?_)
  go_simp
  refine (PA.out _ hS.i HT.out).mono ?_
  rintro e X1 ⟨rfl, hb⟩
  have hS' := hS.call hb
  have R0 := Lib.hid (R0.out.below hb)
  have hz1 := hb.size
  refine hK.out _ _ hS' ?_
  clear hK K hb hS
  have hS := hS'
  clear hS'
  try simp only [Act.put, List.setIfInBounds_toArray, List.set_cons_zero, List.set_cons_succ]
  refine H.one (i := 2) (by simp only [List.getElem?_toArray, List.getElem?_cons_succ, List.getElem?_cons_zero]; rfl) (by kernel_rfl) (by kernel_rfl) (fun K hK => ?_)
  refine wp_valW rfl (ex_bs (s := x) rfl rfl) ?_
  have bel := balloc (Below.refl X1.heap.size X1) (.cells #[.string x] 9)
  have hS' := hS.call bel
  have R0 := Lib.hid (R0.out.below bel)
  refine hK.out _ _ hS' ?_
  have HL := Lib.hid (Js.one_new x X1)
  clear hK K hS bel
  have hS := hS'
  clear hS'
  generalize X1.alloc (.cells #[.string x] 9) = X2 at *
  have hzX : w.heap.size + 1 + 1 < X1.heap.size := by omega
  clear hz1
  generalize X1.heap.size = g8 at *
  try simp only [Act.put, List.setIfInBounds_toArray, List.set_cons_zero, List.set_cons_succ]
  refine H.tk (i := 4) (v := .slice (some ⟨g8, 0, none⟩) 1 1) ?h4x3 hS ?_
  case h4x3 => exact (fun w hw => by go_simp)
  try simp only [Act.put, List.setIfInBounds_toArray, List.set_cons_zero, List.set_cons_succ]
  refine H.one (i := 5) (by simp only [List.getElem?_toArray, List.getElem?_cons_succ, List.getElem?_cons_zero]; rfl) (by kernel_rfl) (by kernel_rfl) (fun K hK => ?_)
  refine wp_store_row 25 _ _ rfl (w.heap.size + 1 + 1) (Kx.cells c) rfl rfl 25 Kx.zero.cells R0.out infoX rfl (oneX _) ?_
  refine hK.out _ _ (hS.row (by omega) _) ?_
  clear hK K
  have hS := (show Us w c m (X2.setRow (w.heap.size + 1 + 1) (Kx.cells c)) from hS.row (by omega) _)
  try simp only [Act.put]
  refine H.tk (i := 6) (v := (Value.int IntKind.i64 0)) (fun w _ => rfl) hS ?_
  try simp only [Act.put, List.setIfInBounds_toArray, List.set_cons_zero, List.set_cons_succ]
  refine wpAnyH_done (by kernel_rfl) ?_ _
  go_wp2_with fail
  exact bodyPost_ret (v := .tuple #[.slice (some ⟨g8, 0, none⟩) 1 1, .agg (Kx.cells c), .int .i64 0]) (results_mid (ty := 25) rfl _ _ (w.heap.size + 1 + 1) (.agg (Kx.cells c)) (.slice (some ⟨g8, 0, none⟩) 1 1) rfl rfl (loadVarK shX (R0.out.put (Kx.cells c)) rfl) (.int .i64 0) rfl) rfl (by rw [HY.out]; exact ⟨_, 1, rfl, (HL.out.under (by omega) _).mono (by omega), hS.bel⟩)
set_option maxHeartbeats 25600000 in
set_option maxRecDepth 100000 in
theorem put_any (c : Kx) (m : M) (w : World) (hm : m.In w) (ln : m.sl.length ≤ 2000) (lb : ∀ x ∈ m.sl, x.1.size ≤ 1099511627776) (hp : m.pfx.size ≤ maxLen) (hc : okC c = true) (ht : Tab w) : Calls Tryd.prog 7 #[.agg c.cells, .agg m.cells] w fun e w' => e = .returned (.tuple #[.string (putL c m).1, .agg (putL c m).2.1.cells, .int .i64 (putL c m).2.2]) ∧ Below w.heap.size w w' := by
  have hsz := tlv_size c m
  have hq := put_tlv c m
  have PT := fun V (y : m.In V) (z : Tab V) => tlvs_any c m V y ln lb hp hc z
  obtain ⟨ls, cf, er, he⟩ : ∃ a b d, tlvP c m = (a, b, d) := ⟨_, _, _, rfl⟩
  rw [he] at hsz hq PT
  rw [hq]
  have HSZ := Lib.hid (show ls.length ≤ 1000 ∧ (flat ls).length ≤ 1000000 from hsz)
  have PT := Lib.hid (fun V (y : m.In V) (z : Tab V) => (PT V y z).mono (fun e w' x => AnsW.said x rfl))
  have HT := Lib.hid ht
  clear hsz hq he ln lb hp hc ht
  show Calls _ _ _ _ fun e w' => e = .returned (.tuple #[.string (catJ ls), .agg cf.cells, .int .i64 er]) ∧ Below w.heap.size w w'
  go_enter Tryd.func7, Tryd.ntmps7
  go_upto_region 1 with fail
  change Code.wp _ _ _ _ (((w.alloc (.cells c.cells 25)).alloc (.cells m.cells 29)).alloc (.cells Kx.zero.cells 25))
  have D := Lib.hid ((Us.start w c m hm).call (balloc (Below.refl _ _) (.cells Kx.zero.cells 25)))
  have R0 := Lib.hid (res_new w c m)
  clear hm
  generalize ((w.alloc (.cells c.cells 25)).alloc (.cells m.cells 29)).alloc (.cells Kx.zero.cells 25) = V at *
  have hzV : w.heap.size + 1 + 1 < V.heap.size := R0.out.lt
  go_wp2_with (first | (refine wpList_loadX (b := w.heap.size) (m := c) rfl _ rfl rfl D.out.s0 ?_) | (refine wpList_loadM (b := w.heap.size + 1) (m := m) rfl _ rfl rfl D.out.m0 ?_))
  refine (PT.out _ D.out.i (HT.out.below D.out.bel)).mono ?_
  rintro r w1 ⟨qa, qk, rfl, hl, hb⟩
  have D := Lib.hid (D.out.call hb)
  have R0 := Lib.hid (R0.out.below hb)
  have HL := Lib.hid hl
  have hz1 := hb.size
  clear hl hb PT
  go_upto_region 2 with (refine wpList_storeX (b := w1.heap.size) (m := Kx.zero) (m' := cf) rfl _ _ rfl rfl rfl (Bk.Bk.new 25 w1 Kx.zero.cells) ?_)
  change Code.wp _ _ _ _ ((w1.alloc (.cells Kx.zero.cells 25)).setRow w1.heap.size (Kx.cells cf))
  rw [World.setRow_alloc_new]
  have bel := balloc (Below.refl w1.heap.size w1) (.cells (Kx.cells cf) 25)
  have D := Lib.hid (D.out.call bel)
  have S1 := Lib.hid (Bk.Bk.new 25 w1 (Kx.cells cf))
  have R0 := Lib.hid (R0.out.below bel)
  have HL := Lib.hid (HL.out.below bel)
  have hgz : w.heap.size + 1 + 1 < w1.heap.size := by omega
  clear bel hz1
  generalize w1.alloc (.cells (Kx.cells cf) 25) = V2 at *
  generalize w1.heap.size = g at *
  have R0 := Lib.hid (show Bk 25 V2.drew (w.heap.size + 1 + 1) Kx.zero.cells from R0.out)
  have HB := Lib.hid (show Below w.heap.size w V2.drew from D.out.bel.drew)
  refine wp_region_held_drew (S := fun X => Lst V.heap.size X (.slice qa ls.length qk) ls ∧ Bk 25 X g cf.cells) (by kernel_rfl) ⟨HL.out.below (Below.refl _ V2).drew, S1.out⟩ (fun hS => ?_)
  clear D HL S1
  generalize V2.drew = X0 at *
  refine H.tk (i := 0) (v := .slice qa ls.length qk) ?h0x1v hS ?_
  case h0x1v => exact (fun w hw => by go_simp)
  try simp only [Act.put, List.setIfInBounds_toArray, List.set_cons_zero, List.set_cons_succ]
  refine H.tk (i := 2) (v := .agg (Kx.cells cf)) ?h2x2v hS ?_
  case h2x2v => exact (fun w hw => run_loadK shX (x := .tmp 8) rfl rfl hw.2 rfl)
  try simp only [Act.put, List.setIfInBounds_toArray, List.set_cons_zero, List.set_cons_succ]
  refine H.tk (i := 3) (v := .int .i64 er) ?h3x3v hS ?_
  case h3x3v => exact (fun w hw => by go_simp)
  try simp only [Act.put, List.setIfInBounds_toArray, List.set_cons_zero, List.set_cons_succ]
  refine H.one (i := 1) (by simp only [List.getElem?_toArray, List.getElem?_cons_succ, List.getElem?_cons_zero]; rfl) (by kernel_rfl) (by kernel_rfl) (fun K hK => ?_)
  go_simp
  refine (Js.join_any qa qk ls _ hS.1 HSZ.out.1 HSZ.out.2).mono ?_
  rintro e X1 ⟨rfl, hb⟩
  have hS' := And.intro (hS.1.below hb) (hS.2.below hb)
  have R0 := Lib.hid (R0.out.below hb)
  have HB := Lib.hid (bcall HB.out hb)
  refine hK.out _ _ hS' ?_
  clear hK K hb hS
  have hS := hS'
  clear hS'
  try simp only [Act.put, List.setIfInBounds_toArray, List.set_cons_zero, List.set_cons_succ]
  refine H.tk (i := 4) (v := .string (catJ ls)) ?h4x4v hS ?_
  case h4x4v => exact (fun w hw => by go_simp)
  try simp only [Act.put, List.setIfInBounds_toArray, List.set_cons_zero, List.set_cons_succ]
  refine H.one (i := 5) (by simp only [List.getElem?_toArray, List.getElem?_cons_succ, List.getElem?_cons_zero]; rfl) (by kernel_rfl) (by kernel_rfl) (fun K hK => ?_)
  refine wp_store_row 25 _ _ rfl (w.heap.size + 1 + 1) (Kx.cells cf) rfl rfl 25 Kx.zero.cells R0.out infoX rfl (oneX _) ?_
  refine hK.out _ _ ⟨hS.1.under hzV _, hS.2.row (by omega) _⟩ ?_
  clear hK K
  have hS := (show Lst V.heap.size (X1.setRow (w.heap.size + 1 + 1) (Kx.cells cf)) (.slice qa ls.length qk) ls ∧ Bk 25 (X1.setRow (w.heap.size + 1 + 1) (Kx.cells cf)) g cf.cells from ⟨hS.1.under hzV _, hS.2.row (by omega) _⟩)
  try simp only [Act.put]
  refine H.tk (i := 6) (v := .int .i64 er) ?h6x5v hS ?_
  case h6x5v => exact (fun w hw => by go_simp)
  try simp only [Act.put, List.setIfInBounds_toArray, List.set_cons_zero, List.set_cons_succ]
  refine wpAnyH_done (by kernel_rfl) ?_ _
  go_wp2_with fail
  exact bodyPost_ret (v := .tuple #[.string (catJ ls), .agg (Kx.cells cf), .int .i64 er]) (results_mid (ty := 25) rfl _ _ (w.heap.size + 1 + 1) (.agg (Kx.cells cf)) (.string (catJ ls)) rfl rfl (loadVarK shX (R0.out.put (Kx.cells cf)) rfl) (.int .i64 er) rfl) rfl ⟨rfl, Box.below_setRow HB.out (by omega) _⟩
end Go.Proofs.YtfegdblaohhdoaaDoor.Lv
namespace Go.Proofs.YtfegdblaohhdoaaDoor.La
open Go.ChangeShapes Go.WideShapes Go.ChangeAt Go.RowKit
open Go.Proofs.YtfegdblaohhdoaaDoor.Ms
open Go.Proofs.YtfegdblaohhdoaaDoor.Box
open Go.Proofs.YtfegdblaohhdoaaDoor.An
open Go.Proofs.YtfegdblaohhdoaaDoor.Tc
open Go.Proofs.YtfegdblaohhdoaaDoor.J1
open Go.Proofs.YtfegdblaohhdoaaDoor.K1
open Go.Proofs.YtfegdblaohhdoaaDoor.Kb
open Go.Proofs.YtfegdblaohhdoaaDoor.L1
open Go.Proofs.YtfegdblaohhdoaaDoor.L2
open Go.Proofs.YtfegdblaohhdoaaDoor.F1 (encT)
open Go.Proofs.YtfegdblaohhdoaaDoor.Bk (Bk alloc_size wpList_builtK run_loadK)
open Go.Proofs.YtfegdblaohhdoaaDoor.Hs
open Go.Proofs.YtfegdblaohhdoaaDoor.Or (st_yes)
set_option linter.unusedVariables false
set_option maxRecDepth 100000
theorem bytes_same (a : ByteArray) : (a.toList == a.toList) = true := by simp
def i0 : ByteArray := ⟨#[97, 98, 99, 100, 101, 102, 103, 104]⟩
def a0 : ByteArray := ⟨#[10, 1, 7, 0]⟩
def c0 : Kx := ⟨⟨#[]⟩, ⟨#[10, 1, 2, 0]⟩, ⟨#[]⟩, ⟨#[]⟩, ⟨#[]⟩, ⟨#[]⟩, i0⟩
def c1 : Kx := { c0 with p1 := a0 }
def m0 : M := { M.zero with kind := 11, ae := 1, pfx := a0, plen := 24, interval := 1, seq := 2, metric := 3, id := i0 }
def s0 : ByteArray := ⟨#[8, 11, 1, 128, 24, 2, 0, 1, 0, 2, 0, 3, 7]⟩
theorem ok_c : okC c0 = true := by decide
theorem bare_0 : bare m0 = true := by
  unfold bare
  rw [(K1.is_11 (m := m0) rfl).1, (K1.is_11 (m := m0) rfl).2]
  unfold M.same M.flatE Own.k11 m0 M.zero
  simp
theorem ok_u : okU m0 = true := by
  unfold okU
  rw [bare_0]
  decide +kernel
theorem ok_m : okL m0 = true := by unfold okL; rw [ok_u]; simp
theorem bad_0 : badC c0 m0 = false := by decide +kernel
theorem om_0 : omN c0 m0 = 2 := by
  unfold omN
  rw [if_neg (by decide)]
  decide +kernel
theorem els_0 : elsL c0 m0 = [(updD m0 2, 8)] := by
  unfold elsL wayE
  rw [if_pos (show m0.kind = 11 from rfl), if_neg (show ¬ m0.metric = 65535 by decide), if_pos (show m0.id = c0.id from rfl), if_pos (show m0.next = c0.nx (fam m0.ae) from rfl), om_0]
  rfl
theorem ctx_0 : ctxL c0 m0 = c1 := by
  unfold ctxL wayC knowP
  rw [if_pos (show m0.kind = 11 from rfl), if_neg (show ¬ m0.metric = 65535 by decide), if_neg (show ¬ m0.ae = 0 by decide)]
  rfl
theorem put_0 : putL c0 m0 = (s0, c1, 0) := by
  unfold putL
  rw [ok_m, bad_0, if_pos rfl, if_neg (by decide), els_0, ctx_0]
  rfl
theorem in_0 (V : World) : m0.In V := ⟨DRow.nil _ _, SRow.nil _ _, Nat.zero_le _, Nat.zero_le _⟩
set_option maxHeartbeats 12800000 in
theorem awake_any (w : World) (ht : Tab w) : Calls Tryd.prog 6 #[] w fun e w' => e = .returned (.bool true) ∧ Below w.heap.size w w' := by
  have P1 := Lib.hid (fun V (y : Tab V) => Lv.put_any c0 m0 V (in_0 V) (Nat.zero_le _) (fun x hx => absurd hx (by show ¬ x ∈ ([] : List El); simp)) (by show (4 : Nat) ≤ maxLen; decide) ok_c y)
  rw [put_0] at P1
  have P2 := Lib.hid (fun V (y : Tab V) => L5.right_any m0 V (in_0 V) (fun x hx => absurd hx (by show ¬ x ∈ ([] : List El); simp)) (by show (4 : Nat) ≤ maxLen; decide) y)
  rw [ok_m] at P2
  have HT := Lib.hid ht
  clear ht
  go_enter Tryd.func6, Tryd.ntmps6
  go_upto_region 2 with (first | (refine wpList_builtK rfl 22 _ rfl #[.string ⟨#[]⟩, .string ⟨#[10, 1, 2, 0]⟩, .string ⟨#[]⟩, .string ⟨#[]⟩] (by kernel_rfl) ?_) | (refine wpList_builtK rfl 25 _ rfl c0.cells (by kernel_rfl) ?_) | (refine wpList_storeX (b := w.heap.size) (m := Kx.zero) (m' := c0) rfl _ _ rfl rfl rfl (Bk.Bk.new 25 w Kx.zero.cells) ?_))
  change Code.wp _ _ _ _ ((w.alloc (.cells Kx.zero.cells 25)).setRow w.heap.size c0.cells)
  rw [World.setRow_alloc_new]
  have bel := balloc (Below.refl w.heap.size w) (.cells c0.cells 25)
  have S0 := Lib.hid (Bk.Bk.new 25 w c0.cells)
  have HB := Lib.hid bel
  clear bel
  generalize w.alloc (.cells c0.cells 25) = V at *
  go_upto_region 3 with (first | (refine wpList_builtK rfl 29 _ rfl (M.cells m0) (by kernel_rfl) ?_) | (refine wpList_storeM (b := V.heap.size) (m := M.zero) (m' := m0) rfl _ _ rfl rfl rfl (Bx.new V M.zero) ?_))
  change Code.wp _ _ _ _ ((V.alloc (.cells M.zero.cells 29)).setRow V.heap.size m0.cells)
  rw [World.setRow_alloc_new]
  have bel := balloc (Below.refl V.heap.size V) (.cells m0.cells 29)
  have S0 := Lib.hid (S0.out.below bel)
  have M0 := Lib.hid (Bx.new V m0)
  have HB := Lib.hid (bcall HB.out bel)
  clear bel
  generalize V.alloc (.cells m0.cells 29) = V2 at *
  generalize V.heap.size = g at *
  go_wp2_with (first | (refine wpList_loadX (b := w.heap.size) (m := c0) rfl _ rfl rfl S0.out ?_) | (refine wpList_loadM (b := g) (m := m0) rfl _ rfl rfl M0.out ?_))
  refine (P1.out _ (HT.out.below HB.out)).mono ?_
  rintro e w1 ⟨rfl, hb⟩
  have HB := Lib.hid (bcall HB.out hb)
  have M0 := Lib.hid (M0.out.below hb)
  clear hb P1 S0
  go_upto_region 4 with (refine wpList_storeX (b := w1.heap.size) (m := Kx.zero) (m' := c1) rfl _ _ rfl rfl rfl (Bk.Bk.new 25 w1 Kx.zero.cells) ?_)
  change Code.wp _ _ _ _ ((w1.alloc (.cells Kx.zero.cells 25)).setRow w1.heap.size c1.cells)
  rw [World.setRow_alloc_new]
  have bel := balloc (Below.refl w1.heap.size w1) (.cells c1.cells 25)
  have S1 := Lib.hid (Bk.Bk.new 25 w1 c1.cells)
  have HB := Lib.hid (bcall HB.out bel)
  have M0 := Lib.hid (M0.out.below bel)
  clear bel
  generalize w1.alloc (.cells c1.cells 25) = V3 at *
  generalize w1.heap.size = g1 at *
  have s1 := S1.out.cell 1 (.string a0) rfl
  have c6 : V3.cell? ⟨g, 6, none⟩ = some (.string a0) := M0.out.cs.c6
  have q1 := bytes_same a0
  have q2 : (s0.toList == [8, 11, 1, 128, 24, 2, 0, 1, 0, 2, 0, 3, 7]) = true := by rw [ByteArray.toList_eq]; rfl
  generalize a0 = aa at *
  generalize s0 = ss at *
  go_wp2_with (first | (refine st_yes (v := .agg (M.cells m0)) (by rfl) rfl (run_loadM (x := .tmp 2) rfl rfl M0.out) ?_))
  refine (P2.out _ (HT.out.below HB.out)).mono ?_
  rintro e w3 ⟨rfl, hb⟩
  have HB := Lib.hid (bcall HB.out hb)
  clear hb P2 M0
  go_wp2
  go_ret
  exact ⟨rfl, HB.out⟩
end Go.Proofs.YtfegdblaohhdoaaDoor.La
namespace Go.Proofs.YtfegdblaohhdoaaDoor.F4
open Go.ChangeShapes Go.WideShapes Go.ChangeAt Go.RowKit
open Go.Proofs.YtfegdblaohhdoaaDoor.F1
open Go.Proofs.YtfegdblaohhdoaaDoor.F2
open Go.Proofs.YtfegdblaohhdoaaDoor.Bk (Bk Sh loadVarK wpList_builtK wpList_loadK wpList_storeK run_loadK alloc_size)
open Go.Proofs.YtfegdblaohhdoaaDoor.Hs
open Go.Proofs.YtfegdblaohhdoaaDoor.Hx (conv8 ex_built)
open Go.Proofs.YtfegdblaohhdoaaDoor.Tl (cellsT oneT Lst TRow bs_one app_one cells_new)
set_option linter.unusedVariables false
set_option maxRecDepth 100000
set_option maxRecDepth 100000

/-- The answer: TLVs, a place, an error; the list is the call's own. -/
def AnsT (p : List T × Int × Int) (w : World) (e : Ending) (w' : World) : Prop :=
  ∃ a c, e = .returned (.tuple #[.slice a p.1.length c, .int .i64 p.2.1, .int .i64 p.2.2]) ∧ Lst w.heap.size w' (.slice a p.1.length c) p.1 ∧ Below w.heap.size w w'
theorem AnsT.no {p : List T × Int × Int} {w w' : World} {c d : Int} (h : p = ([], c, d)) (hb : Below w.heap.size w w') : AnsT p w (.returned (.tuple #[.slice none 0 0, .int .i64 c, .int .i64 d])) w' := by
  subst h
  exact ⟨none, 0, rfl, Lst.nil _ _, hb⟩
theorem AnsT.yes {p : List T × Int × Int} {w w' : World} {a : Option Addr} {c n : Nat} {l : List T} (h : p = (l, 0, 0)) (hn : l.length = n) (hl : Lst w.heap.size w' (.slice a n c) l) (hb : Below w.heap.size w w') : AnsT p w (.returned (.tuple #[.slice a n c, .int .i64 0, .int .i64 0])) w' := by
  subst h hn
  exact ⟨a, c, rfl, hl, hb⟩
end Go.Proofs.YtfegdblaohhdoaaDoor.F4
namespace Go.Proofs.YtfegdblaohhdoaaDoor.F5
open Go.ChangeShapes Go.WideShapes Go.ChangeAt Go.RowKit
open Go.Proofs.YtfegdblaohhdoaaDoor.F1
open Go.Proofs.YtfegdblaohhdoaaDoor.F2
open Go.Proofs.YtfegdblaohhdoaaDoor.F4
open Go.Proofs.YtfegdblaohhdoaaDoor.Bk (Bk Sh wpList_builtK)
open Go.Proofs.YtfegdblaohhdoaaDoor.Hs
open Go.Proofs.YtfegdblaohhdoaaDoor.Hx (conv8 ex_built)
open Go.Proofs.YtfegdblaohhdoaaDoor.Tl (cellsT oneT Lst bs_one app_one cells_new H.bsT H.appT)
set_option linter.unusedVariables false
set_option maxRecDepth 100000
set_option maxRecDepth 100000

set_option maxHeartbeats 6400000 in
theorem rsplit_own (s : ByteArray) (base : Int) (w : World) (hs : s.size ≤ 100000) (h0 : 0 ≤ base) (h1 : base ≤ 1099511627776) : Calls Tryd.prog 8 #[.string s, .int .i64 base] w (AnsT (outT base s) w) := by
  have HS := Lib.hid hs
  have hbs : (s.size : Int) ≤ 100000 := by omega
  clear hs
  go_enter Tryd.func8, Tryd.ntmps8
  go_wp2
  go_loopw [7, 8] (fun v pv wr => ∃ (l : List El) (p : Nat) (r : List UInt8), pv = .int .i64 (p : Int) ∧ Hid ((encT l).length = p) ∧ Hid (Lst w.heap.size wr v (placed base l)) ∧ Hid (okT l) ∧ Hid (s.data.toList = encT l ++ r) ∧ Hid (Below w.heap.size w wr)) (fun _ pv _ => s.size - (intOf pv).toNat)
  case atStart => exact ⟨[], 0, s.data.toList, rfl, Lib.hid rfl, Lib.hid (Lst.nil _ _), Lib.hid okT_nil, Lib.hid rfl, Lib.hid (Below.refl _ _)⟩
  case round =>
    obtain ⟨l, p, r, rfl, HP, HL, HO, HE, HB⟩ := hrel
    have HZ : Hid (s.size = p + r.length) := Lib.hid (by rw [size_of HE.out, List.length_append, HP.out])
    have hp0 : 0 ≤ (p : Int) := Int.natCast_nonneg _
    have hp1 : (p : Int) ≤ 100000 := by have := HZ.out; have := HS.out; omega
    by_cases hu : r = []
    · subst hu
      have HY := Lib.hid (out_yes (base := base) HO.out (by rw [HE.out, List.append_nil]))
      have e1 : ¬ (p : Int) < (s.size : Int) := by have := HZ.out; simp only [List.length_nil] at this; omega
      obtain ⟨a, c, rfl⟩ := HL.out.slice
      have HW := Lib.hid HL.out
      clear HL HP HZ HE
      go_wp2
      go_ret3
      exact AnsT.yes HY.out rfl HW.out HB.out
    obtain ⟨k1, k2, k3⟩ := F1.step HE.out HP.out hu
    have e1 : (p : Int) < (s.size : Int) := by omega
    have i0 := idx s p (p : Int) rfl (by omega)
    have HCC : Hid ((placed base l).length ≤ 100000) := Lib.hid (by rw [placed_len]; have := HS.out; have := HP.out; have := HZ.out; have := len_le l; omega)
    rcases k3 with ⟨b0, r', hc⟩ | ⟨b0, k4, hc⟩ | ⟨n, b0, k4, b1, kn, ⟨k5, hc⟩ | ⟨k5, x, r', hc, x1, x2, x3⟩⟩
    · rw [b0] at i0
      obtain ⟨ho, he⟩ := cut1_some hc
      have HO := Lib.hid (okT_snoc HO.out ho)
      have HE : Hid (s.data.toList = encT (l ++ [(⟨#[]⟩, 0)]) ++ r') := Lib.hid (by rw [HE.out, he, encT_snoc, List.append_assoc])
      have HPL : Hid (placed base (l ++ [(⟨#[]⟩, 0)]) = placed base l ++ [(base + (p : Int), (⟨#[]⟩, 0))]) := Lib.hid (by rw [placed_snoc, HP.out])
      have HP2 : Hid ((encT (l ++ [(⟨#[]⟩, 0)])).length = p + 1) := Lib.hid (by rw [encT_snoc, List.length_append, HP.out]; rfl)
      have HM : Hid (s.size - p > s.size - (p + 1)) := Lib.hid (by omega)
      have HLA := Lib.hid (HL.out.below (balloc (Below.refl _ wr) (.cells (cellsT (base + (p : Int), (⟨#[]⟩, 0))) 40)))
      have HBA := Lib.hid (balloc HB.out (.cells (cellsT (base + (p : Int), (⟨#[]⟩, 0))) 40))
      clear hu hc ho he HZ HP b0 k1 k2 HL HB
      generalize placed base l = lp at *
      go_upto_region 6 with (first | (refine wpList_builtK rfl 40 _ rfl (cellsT (base + (p : Int), (⟨#[]⟩, 0))) (by kernel_rfl) ?_) | (refine bs_one rfl _ rfl (m := (base + (p : Int), (⟨#[]⟩, 0))) rfl ?_) | (at_builtin; refine app_one rfl _ _ rfl w.heap.size _ lp (base + (p : Int), (⟨#[]⟩, 0)) wr.heap.size 1 rfl HLA.out rfl (cells_new (base + (p : Int), (⟨#[]⟩, 0)) wr) HCC.out HBA.out.size ?_))
      intro v' w' hl hgr hb
      have HL := Lib.hid hl
      have HB := Lib.hid (HBA.out.trans hb)
      rw [← HPL.out] at HL
      clear hl hgr hb HLA HBA HPL HCC i0
      go_wp2
      go_roundw
      case rel => exact ⟨l ++ [(⟨#[]⟩, 0)], p + 1, r', by push_cast; rfl, HP2, HL, HO, HE, HB⟩
      case measure => have := HM.out; simp only [intOf]; omega
    · have HY := Lib.hid (out_no (base := base) HO.out HE.out hc hu)
      rw [HP.out] at HY
      have n0 := bt_nn s p
      have l0 := bt_lt s p
      have h2 : (s.size : Int) - (p : Int) < 2 := by omega
      clear hu hc HZ HP HE HO k1 k2 k4 HL HCC
      generalize bt s p = b at *
      go_wp2
      go_ret3
      exact AnsT.no HY.out HB.out
    · have HY := Lib.hid (out_no (base := base) HO.out HE.out hc hu)
      rw [HP.out] at HY
      have n0 := bt_nn s p
      have l0 := bt_lt s p
      have j1 := idx s (p + 1) ((p : Int) + 1) (by push_cast; rfl) (by omega)
      rw [b1] at j1
      have v1 := conv8 (n : Int) (by omega) (by omega)
      have h2 : ¬ (s.size : Int) - (p : Int) < 2 := by omega
      have h4 : (s.size : Int) - (p : Int) - 2 < (n : Int) := by omega
      have kn0 : 0 ≤ (n : Int) := by omega
      have kn1 : (n : Int) ≤ 255 := by omega
      clear hu hc HZ HP HE HO k1 k2 k4 k5 kn b1 HL HCC
      generalize bt s p = b at *
      generalize (n : Int) = ni at *
      go_wp2
      go_ret3
      exact AnsT.no HY.out HB.out
    · obtain ⟨ho, he⟩ := cut1_some hc
      have hl : (enc1 x).length = 2 + n := by rw [enc1_len, if_neg (by rw [x1]; exact b0), x3]
      have HO := Lib.hid (okT_snoc HO.out ho)
      have HE : Hid (s.data.toList = encT (l ++ [x]) ++ r') := Lib.hid (by rw [HE.out, he, encT_snoc, List.append_assoc])
      have HPL : Hid (placed base (l ++ [x]) = placed base l ++ [(base + (p : Int), x)]) := Lib.hid (by rw [placed_snoc, HP.out])
      have HP2 : Hid ((encT (l ++ [x])).length = p + 2 + n) := Lib.hid (by rw [encT_snoc, List.length_append, HP.out, hl]; omega)
      have HM : Hid (s.size - p > s.size - (p + 2 + n)) := Lib.hid (by omega)
      have n0 := bt_nn s p
      have l0 := bt_lt s p
      have j1 := idx s (p + 1) ((p : Int) + 1) (by push_cast; rfl) (by omega)
      rw [b1] at j1
      have v1 := conv8 (n : Int) (by omega) (by omega)
      have v0 := conv8 (bt s p) n0 l0
      have h2 : ¬ (s.size : Int) - (p : Int) < 2 := by omega
      have h4 : ¬ (s.size : Int) - (p : Int) - 2 < (n : Int) := by omega
      have kn0 : 0 ≤ (n : Int) := by omega
      have kn1 : (n : Int) ≤ 255 := by omega
      have s2 := sl_m s ((p : Int) + 2) ((p : Int) + 2 + (n : Int)) (p + 2) (p + 2 + n) (by push_cast; rfl) (by push_cast; rfl) (by omega) (by omega)
      have HX := Lib.hid (show cellsT (base + (p : Int), x) = #[.int .i64 x.2, .int .i64 (base + (p : Int)), .string x.1] from rfl)
      rw [x1, x2] at HX
      clear hu hc ho he hl HZ HP k1 k2 k4 k5 kn b1 x1 x2 x3
      generalize bt s p = b at *
      generalize s.extract (p + 2) (p + 2 + n) = dd at *
      generalize placed base l = lp at *
      go_upto_region 10 with fail
      have q1 : IntKind.i64.wrap ((p : Int) + 2) = (p : Int) + 2 := IntWalk.i64_in _ (by omega)
      have q2 : IntKind.i64.wrap ((p : Int) + 2 + (n : Int)) = (p : Int) + 2 + (n : Int) := IntWalk.i64_in _ (by omega)
      have q3 : wrap64 ((p : Int) + 2) = (p : Int) + 2 := IntWalk.wrap64_in _ (by omega)
      have q4 : wrap64 ((p : Int) + 2 + (n : Int)) = (p : Int) + 2 + (n : Int) := IntWalk.wrap64_in _ (by omega)
      have q5 : IntKind.i64.wrap (base + (p : Int)) = base + (p : Int) := IntWalk.i64_in _ (by omega)
      have q6 : wrap64 (base + (p : Int)) = base + (p : Int) := IntWalk.wrap64_in _ (by omega)
      refine wp_region_held_drew (S := fun _ => True) (by kernel_rfl) trivial (fun hS => ?_)
      have HL := Lib.hid (show Lst w.heap.size wr.drew u7 lp from HL.out)
      have HB := Lib.hid (HB.out.drew)
      generalize wr.drew = w1 at *
      have HLA := Lib.hid (HL.out.below (balloc (Below.refl _ w1) (.cells (cellsT (base + (p : Int), x)) 40)))
      have HBA := Lib.hid (balloc HB.out (.cells (cellsT (base + (p : Int), x)) 40))
      refine H.tk (i := 0) (v := ?v0) ?h0 hS ?_
      case h0 => (intro w hw; go_simp; first | done | (with_reducible rfl))
      try simp only [Act.put, List.setIfInBounds_toArray, List.set_cons_zero, List.set_cons_succ]
      refine H.tk (i := 1) (v := ?v1) ?h1 hS ?_
      case h1 => (intro w hw; go_simp; first | done | (with_reducible rfl))
      try simp only [Act.put, List.setIfInBounds_toArray, List.set_cons_zero, List.set_cons_succ]
      refine H.tk (i := 2) (v := ?v2) ?h2 hS ?_
      case h2 => (intro w hw; go_simp; first | done | (with_reducible rfl))
      try simp only [Act.put, List.setIfInBounds_toArray, List.set_cons_zero, List.set_cons_succ]
      refine H.tk (i := 3) (v := ?v3) ?h3 hS ?_
      case h3 => (intro w hw; go_simp; first | done | (with_reducible rfl))
      try simp only [Act.put, List.setIfInBounds_toArray, List.set_cons_zero, List.set_cons_succ]
      refine H.tk (i := 4) (v := ?v4) ?h4 hS ?_
      case h4 => (intro w hw; go_simp; first | done | (with_reducible rfl))
      try simp only [Act.put, List.setIfInBounds_toArray, List.set_cons_zero, List.set_cons_succ]
      refine H.tk (i := 5) (v := ?v5) ?h5 hS ?_
      case h5 => (intro w hw; go_simp; first | done | (with_reducible rfl))
      try simp only [Act.put, List.setIfInBounds_toArray, List.set_cons_zero, List.set_cons_succ]
      refine H.tk (i := 6) (v := ?v6) ?h6 hS ?_
      case h6 => (intro w hw; go_simp; first | done | (with_reducible rfl))
      try simp only [Act.put, List.setIfInBounds_toArray, List.set_cons_zero, List.set_cons_succ]
      refine H.tk (i := 7) (v := ?v7) ?h7 hS ?_
      case h7 => (intro w hw; go_simp; first | done | (with_reducible rfl))
      try simp only [Act.put, List.setIfInBounds_toArray, List.set_cons_zero, List.set_cons_succ]
      refine H.tk (i := 8) (v := ?v8) ?h8 hS ?_
      case h8 => (intro w hw; go_simp; first | done | (with_reducible rfl))
      try simp only [Act.put, List.setIfInBounds_toArray, List.set_cons_zero, List.set_cons_succ]
      refine H.tk (i := 9) (v := ?v9) ?h9 hS ?_
      case h9 => (intro w hw; go_simp; first | done | (with_reducible rfl))
      try simp only [Act.put, List.setIfInBounds_toArray, List.set_cons_zero, List.set_cons_succ]
      refine H.tk (i := 10) (v := ?v10) ?h10 hS ?_
      case h10 => (intro w hw; go_simp; first | done | (with_reducible rfl))
      try simp only [Act.put, List.setIfInBounds_toArray, List.set_cons_zero, List.set_cons_succ]
      refine H.tk (i := 11) (v := ?v11) ?h11 hS ?_
      case h11 => (intro w hw; go_simp; first | done | (with_reducible rfl))
      try simp only [Act.put, List.setIfInBounds_toArray, List.set_cons_zero, List.set_cons_succ]
      refine H.tk (i := 12) (v := ?v12) ?h12 hS ?_
      case h12 => (intro w hw; go_simp; first | done | (with_reducible rfl))
      try simp only [Act.put, List.setIfInBounds_toArray, List.set_cons_zero, List.set_cons_succ]
      refine H.tk (i := 13) (v := ?v13) ?h13 hS ?_
      case h13 => (intro w hw; go_simp; first | done | (with_reducible rfl))
      try simp only [Act.put, List.setIfInBounds_toArray, List.set_cons_zero, List.set_cons_succ]
      refine H.tk (i := 14) (v := ?v14) ?h14 hS ?_
      case h14 => (intro w hw; go_simp; first | done | (with_reducible rfl))
      try simp only [Act.put, List.setIfInBounds_toArray, List.set_cons_zero, List.set_cons_succ]
      refine H.tk (i := 15) (v := ?v15) ?h15 hS ?_
      case h15 => (intro w hw; go_simp; first | done | (with_reducible rfl))
      try simp only [Act.put, List.setIfInBounds_toArray, List.set_cons_zero, List.set_cons_succ]
      refine H.tk (i := 16) (v := .agg (cellsT (base + (p : Int), x))) ?h16 hS ?_
      case h16 => rw [HX.out]; exact fun w _ => ex_built rfl (by kernel_rfl)
      try simp only [Act.put, List.setIfInBounds_toArray, List.set_cons_zero, List.set_cons_succ]
      refine H.bsT (i := 17) (m := (base + (p : Int), x)) (by simp only [List.getElem?_toArray, List.getElem?_cons_succ, List.getElem?_cons_zero]; rfl) (by kernel_rfl) (by kernel_rfl) rfl _ rfl rfl trivial ?_
      try simp only [Act.put, List.setIfInBounds_toArray, List.set_cons_zero, List.set_cons_succ]
      refine H.appT (i := 18) (by simp only [List.getElem?_toArray, List.getElem?_cons_succ, List.getElem?_cons_zero]; rfl) (by kernel_rfl) (by kernel_rfl) rfl (.tmp 53) (.tmp 70) rfl w.heap.size _ lp (base + (p : Int), x) w1.heap.size 1 rfl HLA.out rfl (cells_new (base + (p : Int), x) w1) HCC.out HBA.out.size (fun _ _ => trivial) ?_
      intro v' w' hl _ hb
      try simp only [Act.put, List.setIfInBounds_toArray, List.set_cons_zero, List.set_cons_succ]
      refine H.tk (i := 19) (v := ?v19) ?h19 hS ?_
      case h19 => (intro w hw; go_simp; first | done | (with_reducible rfl))
      try simp only [Act.put, List.setIfInBounds_toArray, List.set_cons_zero, List.set_cons_succ]
      refine wpAnyH_done (by kernel_rfl) ?_ _
      have HL := Lib.hid hl
      have HB := Lib.hid (HBA.out.trans hb)
      rw [← HPL.out] at HL
      clear hl hb HLA HBA HPL HCC HX s2 i0 j1 v0 v1
      go_wp2
      go_roundw
      case rel => exact ⟨l ++ [x], p + 2 + n, r', by push_cast; rfl, HP2, HL, HO, HE, HB⟩
      case measure => have := HM.out; simp only [intOf]; omega
end Go.Proofs.YtfegdblaohhdoaaDoor.F5
namespace Go.Proofs.YtfegdblaohhdoaaDoor.L3
open Go.ChangeShapes Go.WideShapes Go.ChangeAt Go.RowKit
open Go.Proofs.YtfegdblaohhdoaaDoor.Ms
open Go.Proofs.YtfegdblaohhdoaaDoor.Lk
open Go.Proofs.YtfegdblaohhdoaaDoor.J1
open Go.Proofs.YtfegdblaohhdoaaDoor.K1
open Go.Proofs.YtfegdblaohhdoaaDoor.L1
open Go.Proofs.YtfegdblaohhdoaaDoor.L2
open Go.Proofs.YtfegdblaohhdoaaDoor.Pre (leadN leastN)
open Go.Proofs.YtfegdblaohhdoaaDoor.F1 (bt)
open Go.Proofs.YtfegdblaohhdoaaDoor.Nu
set_option linter.unusedVariables false
set_option maxRecDepth 100000
set_option maxRecDepth 100000
theorem om_none {c : Kx} {m : M} (h : (c.pf m.ae).size = 0) : omN c m = 0 := by unfold omN; rw [if_pos (.inr h)]
theorem adr_size {ae : Int} {a : ByteArray} (h : adrB ae a = true) (h0 : 0 < ae) (h3 : ae ≤ 3) : (a.size = 4 ∧ ae = 1) ∨ (a.size = 16 ∧ ¬ ae = 1) := by
  have := adr_len h h0 h3
  by_cases k : ae = 1
  · rw [if_pos k] at this; exact .inl ⟨this, k⟩
  · rw [if_neg k] at this; exact .inr ⟨this, k⟩
theorem most {c : Kx} {m : M} (hc : okC c = true) (h : okU m = true) (h0 : ¬ m.ae = 0) (hp : ¬ (c.pf m.ae).size = 0) :
    baseN m.ae + omN c m ≤ leastN m.plen ∧ baseN m.ae + omN c m ≤ (c.pf m.ae).size ∧ baseN m.ae + omN c m ≤ m.pfx.size ∧
    (c.pf m.ae).extract 0 (baseN m.ae + omN c m) = m.pfx.extract 0 (baseN m.ae + omN c m) ∧
    (baseN m.ae + omN c m = leastN m.plen ∨ (baseN m.ae + omN c m < (c.pf m.ae).size ∧ baseN m.ae + omN c m < m.pfx.size ∧ ¬ bt (c.pf m.ae) (baseN m.ae + omN c m) = bt m.pfx (baseN m.ae + omN c m))) := by
  have o := (oku_iff m).1 h
  obtain ⟨hlen, hcs⟩ := in_cases o.pfx
  obtain ⟨a0, a1, p0, p1⟩ := len_range hlen
  have hct := count_le hlen
  obtain ⟨o1, _, o3⟩ := om_le (c := c) h
  have ha := in_adr o.pfx
  have hq : adrB m.ae (c.pf m.ae) = true := by
    rcases ((okc_iff c).1 hc).pf a0 a1 with k | k
    · exact absurd k hp
    · exact k.1
  have s1 := adr_size ha (by omega) a1
  have s2 := adr_size hq (by omega) a1
  have hz := cut_size o.pfx
  have hkeep : leastN m.plen ≤ m.pfx.size ∧ m.pfx.data.toList.take (leastN m.plen) = Pre.cutL m.pfx.data.toList m.plen := by
    rcases hcs with ⟨k, _⟩ | ⟨_, hle, hk⟩
    · exact absurd k h0
    · refine ⟨?_, (cut_take hk).symm⟩
      unfold leastN; omega
  have hcut : (cutP m.ae m.pfx m.plen).data.toList = (m.pfx.data.toList.take (leastN m.plen)).drop (baseN m.ae) := by
    show ((Pre.cutL m.pfx.data.toList m.plen).drop (baseN m.ae)) = _
    rw [hkeep.2]
  have hb : (c.pf m.ae).data.toList.take (baseN m.ae) = m.pfx.data.toList.take (baseN m.ae) := by
    unfold baseN
    split
    · rename_i k
      rw [k] at hq ha
      have l1 : link (c.pf 3) = true := by unfold adrB at hq; simpa using hq
      have l2 : link m.pfx = true := by unfold adrB at ha; simpa using ha
      rw [k, link_take l1, link_take l2]
    · rfl
  have hn : baseN m.ae + omN c m ≤ leastN m.plen := by omega
  have htake : (c.pf m.ae).data.toList.take (baseN m.ae + omN c m) = m.pfx.data.toList.take (baseN m.ae + omN c m) := by
    rw [List.take_add, List.take_add, hb, o3, hcut, List.drop_take, List.take_take, Nat.min_eq_left (by omega)]
  refine ⟨hn, by omega, by omega, text_eq (by rw [ext_list, ext_list, List.drop_zero, List.drop_zero, Nat.sub_zero, htake]), ?_⟩
  by_cases he : baseN m.ae + omN c m = leastN m.plen
  · exact .inl he
  have hlt : omN c m < countN m.ae m.plen := by omega
  have hom : omN c m = leadN ⟨((c.pf m.ae).data.toList.drop (baseN m.ae)).toArray⟩ (cutP m.ae m.pfx m.plen) := by
    unfold omN; rw [if_neg (fun k => by rcases k with k | k; exact h0 k; exact hp k)]
  have hb8 : baseN m.ae = if m.ae = 3 then 8 else 0 := rfl
  have hpl : (c.pf m.ae).size = m.pfx.size := by omega
  refine .inr ⟨by omega, by omega, fun hbt => ?_⟩
  have hA : omN c m < (⟨((c.pf m.ae).data.toList.drop (baseN m.ae)).toArray⟩ : ByteArray).size := by
    show omN c m < ((c.pf m.ae).data.toList.drop (baseN m.ae)).toArray.size
    rw [List.size_toArray, List.length_drop, J1.size_list]; omega
  have hB : omN c m < (cutP m.ae m.pfx m.plen).size := by omega
  have key := Ld.lead_other ⟨((c.pf m.ae).data.toList.drop (baseN m.ae)).toArray⟩ (cutP m.ae m.pfx m.plen) (by rw [← hom]; exact hA) (by rw [← hom]; exact hB)
  apply key
  have e1 : ∀ (x : ByteArray) (i : Nat) (hi : i < x.size), ((x[i].toNat : Nat) : Int) = bt x i := fun x i hi => F1.bt_eq x i hi
  have g1 := e1 ⟨((c.pf m.ae).data.toList.drop (baseN m.ae)).toArray⟩ (leadN ⟨((c.pf m.ae).data.toList.drop (baseN m.ae)).toArray⟩ (cutP m.ae m.pfx m.plen)) (by rw [← hom]; exact hA)
  have g2 := e1 (cutP m.ae m.pfx m.plen) (leadN ⟨((c.pf m.ae).data.toList.drop (baseN m.ae)).toArray⟩ (cutP m.ae m.pfx m.plen)) (by rw [← hom]; exact hB)
  have f1 : bt ⟨((c.pf m.ae).data.toList.drop (baseN m.ae)).toArray⟩ (omN c m) = bt (c.pf m.ae) (baseN m.ae + omN c m) := by
    unfold bt
    show ((((c.pf m.ae).data.toList.drop (baseN m.ae)).getD (omN c m) 0).toNat : Int) = _
    rw [List.getD_eq_getElem?_getD, List.getElem?_drop, ← List.getD_eq_getElem?_getD]
  have f2 : bt (cutP m.ae m.pfx m.plen) (omN c m) = bt m.pfx (baseN m.ae + omN c m) := by
    unfold bt
    rw [hcut, List.getD_eq_getElem?_getD, List.getElem?_drop, List.getElem?_take_of_lt (by omega), ← List.getD_eq_getElem?_getD]
  have : ((⟨((c.pf m.ae).data.toList.drop (baseN m.ae)).toArray⟩ : ByteArray)[leadN ⟨((c.pf m.ae).data.toList.drop (baseN m.ae)).toArray⟩ (cutP m.ae m.pfx m.plen)].toNat : Int) = ((cutP m.ae m.pfx m.plen)[leadN ⟨((c.pf m.ae).data.toList.drop (baseN m.ae)).toArray⟩ (cutP m.ae m.pfx m.plen)].toNat : Int) := by
    rw [g1, g2, ← hom, f1, f2, hbt]
  exact Int.ofNat.inj this
end Go.Proofs.YtfegdblaohhdoaaDoor.L3
namespace Go.Proofs.YtfegdblaohhdoaaDoor.Lc
open Go.ChangeShapes Go.WideShapes Go.ChangeAt Go.RowKit
open Go.Proofs.YtfegdblaohhdoaaDoor.Ms
open Go.Proofs.YtfegdblaohhdoaaDoor.Box
open Go.Proofs.YtfegdblaohhdoaaDoor.An
open Go.Proofs.YtfegdblaohhdoaaDoor.K1
open Go.Proofs.YtfegdblaohhdoaaDoor.L2
open Go.Proofs.YtfegdblaohhdoaaDoor.Cx
open Go.Proofs.YtfegdblaohhdoaaDoor.Bk (Bk alloc_size)
open Go.Proofs.YtfegdblaohhdoaaDoor.F1 (T encT placed placed_append placed_len outT out_yes)
open Go.Proofs.YtfegdblaohhdoaaDoor.Tl (Lst)
set_option linter.unusedVariables false
set_option maxRecDepth 100000
/-- What the law's two boxes hold, behind where the call began. -/
structure Vs (w : World) (c : Kx) (m : M) (W : World) : Prop where
  s0 : Bk 25 W w.heap.size c.cells
  m0 : Bx W (w.heap.size + 1) m
  d : DRow W m.la m.ll
  s : SRow W m.sa m.sl
  bel : Below w.heap.size w W
theorem Vs.call {w V W : World} {c : Kx} {m : M} (h : Vs w c m V) (hb : Below V.heap.size V W) : Vs w c m W := ⟨h.s0.below hb, h.m0.below hb, h.d.below hb, h.s.below hb, bcall h.bel hb⟩
theorem Vs.start (w : World) (c : Kx) (m : M) (hd : DRow w m.la m.ll) (hs : SRow w m.sa m.sl) : Vs w c m ((w.alloc (.cells c.cells 25)).alloc (.cells m.cells 29)) := by
  have hb := balloc (balloc (Below.refl _ w) (.cells c.cells 25)) (.cells m.cells 29)
  refine ⟨(Bk.Bk.new 25 w c.cells).old _, ?_, hd.below hb, hs.below hb, hb⟩
  have := Bx.new (w.alloc (.cells c.cells 25)) m
  rw [alloc_size] at this
  exact this
theorem Vs.drew {w V : World} {c : Kx} {m : M} (h : Vs w c m V) : Vs w c m V.drew := h.call (Below.refl _ V).drew
theorem heldV {P : Program} {f : Nat} {args : Array Value} {v : Ending} {w W : World} {c : Kx} {m : M} (h : Calls P f args W fun e w' => e = v ∧ Below W.heap.size W w') (hS : Vs w c m W) : Calls P f args W fun e w' => e = v ∧ Vs w c m w' :=
  h.mono fun _ _ ⟨he, hb⟩ => ⟨he, hS.call hb⟩
theorem put_no {c : Kx} {m : M} (h : okL m = false) : putL c m = (ByteArray.empty, c, 1) := by unfold putL; rw [h]; rfl
theorem put_bad {c : Kx} {m : M} (h : okL m = true) (hb : badC c m = true) : putL c m = (ByteArray.empty, c, 9) := by unfold putL; rw [h, hb]; rfl
theorem put_yes {c : Kx} {m : M} (h : okL m = true) (hb : badC c m = false) : putL c m = (⟨(encT (elsL c m)).toArray⟩, ctxL c m, 0) := by unfold putL; rw [h, hb]; rfl
theorem split_yes {c : Kx} {m : M} (h : okL m = true) (hb : badC c m = false) : outT 0 ⟨(encT (elsL c m)).toArray⟩ = (placed 0 (elsL c m), 0, 0) := out_yes (els_ok h hb) rfl
theorem own_at {B : Nat} {w : World} {a : Option Addr} {k : Nat} {l : List T} (h : Lst B w (.slice a l.length k) l) (h0 : 0 < l.length) : ∃ g, a = some ⟨g, 0, none⟩ ∧ B ≤ g ∧ g < w.heap.size := by
  rcases h.2 with ⟨_, e⟩ | ⟨g, cap, cur, hv, hB, hg, _⟩
  · omega
  · simp at hv
    exact ⟨g, hv.1, hB, (Array.getElem?_eq_some_iff.1 hg).1⟩
/-- The cells of one TLV of it, whatever comes behind. -/
theorem cells_at {B g : Nat} {w : World} {k : Nat} {l : List T} (h : Lst B w (.slice (some ⟨g, 0, none⟩) l.length k) l) (i : Nat) (hi : i < l.length) : ∀ W, Below w.heap.size w W →
    W.cell? ⟨g, i * 3, none⟩ = some (.int .i64 l[i].2.2) ∧ W.cell? ⟨g, i * 3 + 2, none⟩ = some (.string l[i].2.1) := by
  intro W hb
  obtain ⟨q, e, _, c0, c1, c2⟩ := ((h.row).below hb) i hi
  obtain rfl := Option.some.inj e
  rw [Tl.add_at] at c0
  rw [Tl.add_at, Tl.add_at] at c2
  rw [Nat.zero_add] at c0 c2
  exact ⟨c0, c2⟩
end Go.Proofs.YtfegdblaohhdoaaDoor.Lc
namespace Go.Proofs.YtfegdblaohhdoaaDoor.Ko
open Go.ChangeShapes Go.WideShapes Go.ChangeAt Go.RowKit
open Go.Proofs.YtfegdblaohhdoaaDoor.Ms
open Go.Proofs.YtfegdblaohhdoaaDoor.Lk (link rlink_bel)
open Go.Proofs.YtfegdblaohhdoaaDoor.J1
open Go.Proofs.YtfegdblaohhdoaaDoor.J2 (nil_eq nil_em size_eq)
open Go.Proofs.YtfegdblaohhdoaaDoor.K1
open Go.Proofs.YtfegdblaohhdoaaDoor.Kb
open Go.Proofs.YtfegdblaohhdoaaDoor.K2
open Go.Proofs.YtfegdblaohhdoaaDoor.Bk (Bk alloc_size)
set_option linter.unusedVariables false
set_option maxRecDepth 100000
set_option maxRecDepth 100000
theorem wpList_store4 {ops : Array Oper} {rest : List Oper} {o : Oper} {a : Act} {w : World} {Q : Exit → Act → World → Prop} (hgd : o.guard = none) (x y : Operand) (ho : o.op = .store 22 x y)
    {g : Nat} (hx : a.eval x = .pointer (some ⟨g, 0, none⟩)) {p q r s p' q' r' s' : ByteArray} (hy : a.eval y = .agg #[.string p', .string q', .string r', .string s']) (hb : Bk 22 w g #[.string p, .string q, .string r, .string s])
    (h : wpList Tryd.prog ops Q rest (a.put o.dst undef) (w.setRow g #[.string p', .string q', .string r', .string s'])) : wpList Tryd.prog ops Q (o :: rest) a w :=
  wpList_store_row hgd 22 x y ho g _ hx hy 22 _ hb (by kernel_rfl) rfl (by simp [Value.oneCell']) h
theorem ne_of {x : Int} {k : Int} {b : Bool} (h : (x == k) = b) : (x != k) = !b := by rw [bne, h]
set_option maxHeartbeats 12800000 in
theorem rok_any (c : Kx) (w : World) : Calls Tryd.prog 5 #[.agg c.cells] w fun e w' => e = .returned (.bool (okC c)) ∧ Below w.heap.size w w' := by
  have HK := Lib.hid (show okC c = (decide (c.p0.size = 0) && ((decide (c.p1.size = 0) || decide (c.p1.size = 4)) && ((decide (c.p2.size = 0) || decide (c.p2.size = 16)) && ((decide (c.p3.size = 0) || link c.p3) && ((decide (c.n0.size = 0) || decide (c.n0.size = 4)) && ((decide (c.n1.size = 0) || decide (c.n1.size = 16)) && (decide (c.id.size = 0) || decide (c.id.size = 8)))))))) from rfl)
  have C0 := Lib.hid (Bk.Bk.new 25 w c.cells)
  have HB := Lib.hid (balloc (Below.refl _ w) (.cells c.cells 25))
  have PL := Lib.hid (fun V => rlink_bel c.p3 V)
  have n0 := nil_eq c.p0
  have m0 := nil_em c.p0
  have n1 := nil_eq c.p1
  have m1 := nil_em c.p1
  have q1 : ((c.p1.size : Int) == 4) = decide (c.p1.size = 4) := size_eq c.p1 4
  have r1 := ne_of q1
  have n2 := nil_eq c.p2
  have m2 := nil_em c.p2
  have q2 : ((c.p2.size : Int) == 16) = decide (c.p2.size = 16) := size_eq c.p2 16
  have r2 := ne_of q2
  have n3 := nil_eq c.p3
  have m3 := nil_em c.p3
  have n4 := nil_eq c.n0
  have m4 := nil_em c.n0
  have q4 : ((c.n0.size : Int) == 4) = decide (c.n0.size = 4) := size_eq c.n0 4
  have r4 := ne_of q4
  have n5 := nil_eq c.n1
  have m5 := nil_em c.n1
  have q5 : ((c.n1.size : Int) == 16) = decide (c.n1.size = 16) := size_eq c.n1 16
  have r5 := ne_of q5
  have n6 := nil_eq c.id
  have m6 := nil_em c.id
  have q6 : ((c.id.size : Int) == 8) = decide (c.id.size = 8) := size_eq c.id 8
  have r6 := ne_of q6
  generalize okC c = y at *
  generalize decide (c.p0.size = 0) = z0 at *
  generalize decide (c.p1.size = 0) = z1 at *
  generalize decide (c.p1.size = 4) = s1 at *
  generalize decide (c.p2.size = 0) = z2 at *
  generalize decide (c.p2.size = 16) = s2 at *
  generalize decide (c.p3.size = 0) = z3 at *
  generalize decide (c.n0.size = 0) = z4 at *
  generalize decide (c.n0.size = 4) = s4 at *
  generalize decide (c.n1.size = 0) = z5 at *
  generalize decide (c.n1.size = 16) = s5 at *
  generalize decide (c.id.size = 0) = z6 at *
  generalize decide (c.id.size = 8) = s6 at *
  generalize link c.p3 = s3 at *
  go_enter Tryd.func5, Tryd.ntmps5
  go_upto_region 1 with fail
  change Code.wp _ _ _ _ (w.alloc (.cells c.cells 25))
  generalize w.alloc (.cells c.cells 25) = V at *
  go_upto_region 2 with (first | (refine wpList_loadAt (b := w.heap.size) (off := 0) (l := [.string c.p0, .string c.p1, .string c.p2, .string c.p3]) rfl _ rfl rfl C0.out (four_in c) (agg4 _) (size4 _) ?_) | (refine wpList_store4 (g := V.heap.size) rfl _ _ rfl rfl rfl (Bk.Bk.new 22 V #[.string ByteArray.empty, .string ByteArray.empty, .string ByteArray.empty, .string ByteArray.empty]) ?_))
  change Code.wp _ _ _ _ ((V.alloc (.cells #[.string ByteArray.empty, .string ByteArray.empty, .string ByteArray.empty, .string ByteArray.empty] 22)).setRow V.heap.size #[.string c.p0, .string c.p1, .string c.p2, .string c.p3])
  rw [World.setRow_alloc_new]
  have A0 := Lib.hid (Bk.Bk.new 22 V #[.string c.p0, .string c.p1, .string c.p2, .string c.p3])
  have bel := balloc (Below.refl V.heap.size V) (.cells #[.string c.p0, .string c.p1, .string c.p2, .string c.p3] 22)
  have C0 := Lib.hid (C0.out.below bel)
  have HB := Lib.hid (bcall HB.out bel)
  clear bel
  generalize V.alloc (.cells #[.string c.p0, .string c.p1, .string c.p2, .string c.p3] 22) = W at *
  generalize V.heap.size = g at *
  simp only [Act.put]
  go_cut [41] (fun m wx => m = .bool (!(z0 && ((z1 || s1) && ((z2 || s2) && (z3 || s3))))) ∧ Below W.heap.size W wx)
  case first =>
    have HB := Lib.hid (Below.refl W.heap.size W)
    have a0 := A0.out.cell 0 (.string c.p0) rfl
    have a1 := A0.out.cell 1 (.string c.p1) rfl
    have a2 := A0.out.cell 2 (.string c.p2) rfl
    have a3 := A0.out.cell 3 (.string c.p3) rfl
    clear A0 C0 HK
    cases z0
    rotate_left
    · cases z1
      rotate_left
      · cases z2
        rotate_left
        · cases z3
          rotate_left
          · go_wp2_with fail
            go_meet
            exact ⟨rfl, HB.out⟩
          cases s3
          · go_wp2_with fail
            refine (PL.out _).mono ?_
            rintro r w' ⟨rfl, hb⟩
            have HB := Lib.hid (bcall HB.out hb)
            clear hb
            go_wp2_with fail
            go_meet
            exact ⟨rfl, HB.out⟩
          go_wp2_with fail
          refine (PL.out _).mono ?_
          rintro r w' ⟨rfl, hb⟩
          have HB := Lib.hid (bcall HB.out hb)
          clear hb
          go_wp2_with fail
          go_meet
          exact ⟨rfl, HB.out⟩
        cases s2
        · go_wp2_with fail
          go_meet
          exact ⟨rfl, HB.out⟩
        cases z3
        rotate_left
        · go_wp2_with fail
          go_meet
          exact ⟨rfl, HB.out⟩
        cases s3
        · go_wp2_with fail
          refine (PL.out _).mono ?_
          rintro r w' ⟨rfl, hb⟩
          have HB := Lib.hid (bcall HB.out hb)
          clear hb
          go_wp2_with fail
          go_meet
          exact ⟨rfl, HB.out⟩
        go_wp2_with fail
        refine (PL.out _).mono ?_
        rintro r w' ⟨rfl, hb⟩
        have HB := Lib.hid (bcall HB.out hb)
        clear hb
        go_wp2_with fail
        go_meet
        exact ⟨rfl, HB.out⟩
      cases s1
      · go_wp2_with fail
        go_meet
        exact ⟨rfl, HB.out⟩
      cases z2
      rotate_left
      · cases z3
        rotate_left
        · go_wp2_with fail
          go_meet
          exact ⟨rfl, HB.out⟩
        cases s3
        · go_wp2_with fail
          refine (PL.out _).mono ?_
          rintro r w' ⟨rfl, hb⟩
          have HB := Lib.hid (bcall HB.out hb)
          clear hb
          go_wp2_with fail
          go_meet
          exact ⟨rfl, HB.out⟩
        go_wp2_with fail
        refine (PL.out _).mono ?_
        rintro r w' ⟨rfl, hb⟩
        have HB := Lib.hid (bcall HB.out hb)
        clear hb
        go_wp2_with fail
        go_meet
        exact ⟨rfl, HB.out⟩
      cases s2
      · go_wp2_with fail
        go_meet
        exact ⟨rfl, HB.out⟩
      cases z3
      rotate_left
      · go_wp2_with fail
        go_meet
        exact ⟨rfl, HB.out⟩
      cases s3
      · go_wp2_with fail
        refine (PL.out _).mono ?_
        rintro r w' ⟨rfl, hb⟩
        have HB := Lib.hid (bcall HB.out hb)
        clear hb
        go_wp2_with fail
        go_meet
        exact ⟨rfl, HB.out⟩
      go_wp2_with fail
      refine (PL.out _).mono ?_
      rintro r w' ⟨rfl, hb⟩
      have HB := Lib.hid (bcall HB.out hb)
      clear hb
      go_wp2_with fail
      go_meet
      exact ⟨rfl, HB.out⟩
    go_wp2_with fail
    go_meet
    exact ⟨rfl, HB.out⟩
  case rest =>
    obtain ⟨rfl, hbc⟩ := hcut
    have C0 := Lib.hid (C0.out.below hbc)
    have HB := Lib.hid (bcall HB.out hbc)
    clear hbc A0 PL n0 n1 n2 n3 m0 m1 m2 m3 q1 q2 r1 r2
    generalize hzz : (z0 && ((z1 || s1) && ((z2 || s2) && (z3 || s3)))) = zz at *
    have HK := Lib.hid (show y = (zz && ((z4 || s4) && ((z5 || s5) && (z6 || s6)))) from by rw [HK.out, ← hzz]; simp only [Bool.and_assoc])
    clear hzz
    have c4 := C0.out.cell 4 (.string c.n0) rfl
    have c5 := C0.out.cell 5 (.string c.n1) rfl
    have c6 := C0.out.cell 6 (.string c.id) rfl
    clear C0
    cases zz
    · go_wp2
      go_ret
      exact ⟨bool_eq HK.out.symm, HB.out⟩
    cases z4
    rotate_left
    · cases z5
      rotate_left
      · cases z6
        rotate_left
        · go_wp2
          go_ret
          exact ⟨bool_eq HK.out.symm, HB.out⟩
        cases s6
        · go_wp2
          go_ret
          exact ⟨bool_eq HK.out.symm, HB.out⟩
        go_wp2
        go_ret
        exact ⟨bool_eq HK.out.symm, HB.out⟩
      cases s5
      · go_wp2
        go_ret
        exact ⟨bool_eq HK.out.symm, HB.out⟩
      cases z6
      rotate_left
      · go_wp2
        go_ret
        exact ⟨bool_eq HK.out.symm, HB.out⟩
      cases s6
      · go_wp2
        go_ret
        exact ⟨bool_eq HK.out.symm, HB.out⟩
      go_wp2
      go_ret
      exact ⟨bool_eq HK.out.symm, HB.out⟩
    cases s4
    · go_wp2
      go_ret
      exact ⟨bool_eq HK.out.symm, HB.out⟩
    cases z5
    rotate_left
    · cases z6
      rotate_left
      · go_wp2
        go_ret
        exact ⟨bool_eq HK.out.symm, HB.out⟩
      cases s6
      · go_wp2
        go_ret
        exact ⟨bool_eq HK.out.symm, HB.out⟩
      go_wp2
      go_ret
      exact ⟨bool_eq HK.out.symm, HB.out⟩
    cases s5
    · go_wp2
      go_ret
      exact ⟨bool_eq HK.out.symm, HB.out⟩
    cases z6
    rotate_left
    · go_wp2
      go_ret
      exact ⟨bool_eq HK.out.symm, HB.out⟩
    cases s6
    · go_wp2
      go_ret
      exact ⟨bool_eq HK.out.symm, HB.out⟩
    go_wp2
    go_ret
    exact ⟨bool_eq HK.out.symm, HB.out⟩
end Go.Proofs.YtfegdblaohhdoaaDoor.Ko
