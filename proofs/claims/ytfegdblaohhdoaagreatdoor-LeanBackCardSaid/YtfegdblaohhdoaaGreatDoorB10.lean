/-
  Any message's TLVs, and its bytes: the program's tlvs and Put. Conditions: what is known may be; the message's lists stand in the world, and aren't long; the variables have what they are laid with.
  The document's example of layer 24. Condition: the variables have what they are laid with.
  The TLVs of bytes: the program's Split. Condition: at most 100000 bytes, from a place of at most 2^40 on.
  The TLVs of bytes: the document's Split. Condition: at most 100000 bytes, from a place of at most 2^40 on.
  What the laws of layer 24 share: the boxes of what is known and of a message; what Put's answer is, case by case; the last TLV of a list of a call's own. No conditions.
  A list of messages with Subs, all of a call's own, to which messages are appended, one or a list of them. No conditions.
  The program's calls on the reader: a number, a text, the rest, the fields of each type. Conditions: at most 2^20 bytes.
  Which Subs bytes hold: the program's sift and Get. Condition: at most 100000 bytes.
  The program's Get and Take: the request, the Update that a TLV says. Conditions: a type of theirs, at most 100000 bytes; the variable has what it is laid with.
  A stepper's block; an address's short and long bytes, the router-id in it, an Update's address by what is known, what its flags say, whether it is told. Conditions: what is known may be, the Update counts; the variables have what they are laid with.
  What an Update's flags say, whether it is told, its message. Conditions: the Update counts; the Subs stand in the world.
  The program's steps: a router-id's TLV, a next hop's, an Update, any of them. Conditions: what is known may be; at most 100000 bytes; the variables have what they are laid with.
  The program's step over any TLV of the types 6 to 8. Conditions: what is known may be; at most 100000 bytes; the variables have what they are laid with.
  What a fold over TLVs answers; a TLV of a list, loaded; what stands while it goes on. No conditions.
  The program's Get: the message that a TLV says. Conditions: a type from 2 to 5, at most 100000 bytes; the variable has what it is laid with.
  Which Subs bytes hold: the document's Get. Condition: at most 100000 bytes.
-/
import Derived.Test.YtfegdblaohhdoaaGreatDoorB01
import Derived.Test.YtfegdblaohhdoaaGreatDoorB03
import Derived.Test.YtfegdblaohhdoaaGreatDoorB04
import Derived.Test.YtfegdblaohhdoaaGreatDoorB05
import Derived.Test.YtfegdblaohhdoaaGreatDoorB06
import Derived.Test.YtfegdblaohhdoaaGreatDoorB07
import Derived.Test.YtfegdblaohhdoaaGreatDoorB08
import Derived.Test.YtfegdblaohhdoaaGreatDoorB09
import Derived.Laws.AppendOwnNone
namespace Go.Proofs.YtfegdblaohhdoaaGreatDoor.Lv
open Go.ChangeShapes Go.WideShapes Go.ChangeAt Go.RowKit
open Go.Proofs.YtfegdblaohhdoaaGreatDoor.Ms
open Go.Proofs.YtfegdblaohhdoaaGreatDoor.Box
open Go.Proofs.YtfegdblaohhdoaaGreatDoor.An
open Go.Proofs.YtfegdblaohhdoaaGreatDoor.Tc
open Go.Proofs.YtfegdblaohhdoaaGreatDoor.J1
open Go.Proofs.YtfegdblaohhdoaaGreatDoor.K1
open Go.Proofs.YtfegdblaohhdoaaGreatDoor.Kb
open Go.Proofs.YtfegdblaohhdoaaGreatDoor.L1
open Go.Proofs.YtfegdblaohhdoaaGreatDoor.L2
open Go.Proofs.YtfegdblaohhdoaaGreatDoor.L5
open Go.Proofs.YtfegdblaohhdoaaGreatDoor.L6
open Go.Proofs.YtfegdblaohhdoaaGreatDoor.Lw
open Go.Proofs.YtfegdblaohhdoaaGreatDoor.Cx
open Go.Proofs.YtfegdblaohhdoaaGreatDoor.F1 (enc1 enc1_len encT)
open Go.Proofs.YtfegdblaohhdoaaGreatDoor.Bk (Bk alloc_size run_loadK loadVarK)
open Go.Proofs.YtfegdblaohhdoaaGreatDoor.Js (Lst bs_one ex_bs cells_new infoT rowT catJ flat)
open Go.Proofs.YtfegdblaohhdoaaGreatDoor.Hs
open Go.Proofs.YtfegdblaohhdoaaGreatDoor.Hy
open Go.Proofs.YtfegdblaohhdoaaGreatDoor.Or (st_yes)
set_option linter.unusedVariables false
set_option maxRecDepth 100000
open Go.Proofs.YtfegdblaohhdoaaGreatDoor.Lu
/-- What Put answers is what tlvs does, joined. -/
theorem put_tlv (c : Kx) (m : M) : putL c m = (catJ (tlvP c m).1, (tlvP c m).2.1, (tlvP c m).2.2) := by
  unfold putL tlvP updP
  cases okL m
  · rfl
  rw [if_pos rfl, if_pos rfl]
  cases badC c m
  · rw [if_neg (by decide), if_neg (by decide)]
    show _ = (catJ (elB (elsL c m)), _, _)
    unfold catJ
    rw [elB_flat]
  · rfl
theorem els_size {c : Kx} {m : M} (h : okL m = true) (hb : badC c m = false) : (elsL c m).length ≤ 3 ∧ (encT (elsL c m)).length ≤ 1000 := by
  have h3 : (elsL c m).length ≤ 3 := by
    unfold elsL
    split
    · have := way_len c m
      rw [elB_len] at this
      rw [List.length_append]
      exact Nat.add_le_add_right this 1
    · exact (by decide : 1 ≤ 3)
  refine ⟨h3, ?_⟩
  have ho := els_ok h hb
  generalize elsL c m = l at *
  have h1 : ∀ x : F1.El, F1.ok1 x → (enc1 x).length ≤ 257 := fun x hx => by
    rw [enc1_len]
    have := hx.2.2.1
    split <;> omega
  clear h hb
  match l, h3, ho with
  | [], _, _ => exact (by decide : 0 ≤ 1000)
  | [x], _, ho => have := h1 x (ho x (by simp)); unfold encT; simp only [List.flatMap_cons, List.flatMap_nil, List.append_nil]; omega
  | [x, y], _, ho => have := h1 x (ho x (by simp)); have := h1 y (ho y (by simp)); unfold encT; simp only [List.flatMap_cons, List.flatMap_nil, List.append_nil, List.length_append]; omega
  | [x, y, z], _, ho => have := h1 x (ho x (by simp)); have := h1 y (ho y (by simp)); have := h1 z (ho z (by simp)); unfold encT; simp only [List.flatMap_cons, List.flatMap_nil, List.append_nil, List.length_append]; omega
theorem tlv_size (c : Kx) (m : M) : (tlvP c m).1.length ≤ 1000 ∧ (flat (tlvP c m).1).length ≤ 1000000 := by
  unfold tlvP updP
  cases ho : okL m
  · exact ⟨Nat.zero_le _, Nat.zero_le _⟩
  rw [if_pos rfl]
  cases hb : badC c m
  · rw [if_neg (by decide)]
    show (elB (elsL c m)).length ≤ 1000 ∧ (flat (elB (elsL c m))).length ≤ 1000000
    rw [elB_len, elB_flat]
    obtain ⟨h1, h2⟩ := els_size ho hb
    omega
  · exact ⟨Nat.zero_le _, Nat.zero_le _⟩
set_option maxHeartbeats 25600000 in
set_option maxRecDepth 100000 in
theorem tlvs_any (c : Kx) (m : M) (w : World) (hm : m.In w) (ln : m.sl.length ≤ 2000) (lb : ∀ x ∈ m.sl, x.1.size ≤ 1099511627776) (hp : m.pfx.size ≤ maxLen) (hc : okC c = true) (ht : Tab w) : Calls Tryz.prog 18 #[.agg c.cells, .agg m.cells] w (AnsW (tlvP c m) w) := by
  have P1 := Lib.hid (fun V (y : m.In V) (z : Tab V) => L5.right_any m V y lb hp z)
  have HT := Lib.hid ht
  clear ht
  cases ho : okL m
  · have HY := Lib.hid (show tlvP c m = ([], c, 1) by unfold tlvP; rw [ho]; rfl)
    rw [ho] at P1
    clear ho hc lb ln hp
    go_enter Tryz.func18, Tryz.ntmps18
    go_upto_region 1 with fail
    change Code.wp _ _ _ _ (((w.alloc (.cells c.cells 25)).alloc (.cells m.cells 29)).alloc (.cells Kx.zero.cells 25))
    have D := Lib.hid ((Us.start w c m hm).call (balloc (Below.refl _ _) (.cells Kx.zero.cells 25)))
    have R0 := Lib.hid (res_new w c m)
    clear hm
    generalize ((w.alloc (.cells c.cells 25)).alloc (.cells m.cells 29)).alloc (.cells Kx.zero.cells 25) = V at *
    go_wp2_with (first | (refine wpList_loadM (b := w.heap.size + 1) (m := m) rfl _ rfl rfl D.out.m0 ?_))
    refine (P1.out _ D.out.i (HT.out.below D.out.bel)).mono ?_
    rintro r w1 ⟨rfl, hb⟩
    have D := Lib.hid (D.out.call hb)
    have R0 := Lib.hid (R0.out.below hb)
    clear hb P1
    generalize w1 = V at *
    go_upto_region 2 with fail
    have R0 := Lib.hid (show Bk 25 V.drew (w.heap.size + 1 + 1) Kx.zero.cells from R0.out)
    have HB := Lib.hid (show Below w.heap.size w V.drew from D.out.bel.drew)
    refine wp_region_held_drew (S := fun X => Bk 25 X w.heap.size (Kx.cells c)) (by kernel_rfl) (D.out.s0) (fun hS => ?_)
    clear D
    generalize V.drew = Z0 at *
    refine H.tk (i := 0) (v := .agg (Kx.cells c)) ?h0x1t1 hS ?_
    case h0x1t1 => exact (fun w hw => run_loadK shX (x := .tmp 2) rfl rfl hw rfl)
    try simp only [Act.put, List.setIfInBounds_toArray, List.set_cons_zero, List.set_cons_succ]
    refine H.tk (i := 1) (v := (Value.slice none 0 0)) (fun w _ => rfl) hS ?_
    try simp only [Act.put, List.setIfInBounds_toArray, List.set_cons_zero, List.set_cons_succ]
    refine H.one (i := 2) (by simp only [List.getElem?_toArray, List.getElem?_cons_succ, List.getElem?_cons_zero]; rfl) (by kernel_rfl) (by kernel_rfl) (fun K hK => ?_)
    refine wp_store_row 25 _ _ rfl (w.heap.size + 1 + 1) (Kx.cells c) rfl rfl 25 Kx.zero.cells R0.out infoX rfl (oneX _) ?_
    refine hK.out _ _ (hS.row (by omega) _) ?_
    clear hK K
    have hS := (show Bk 25 (Z0.setRow (w.heap.size + 1 + 1) (Kx.cells c)) w.heap.size (Kx.cells c) from hS.row (by omega) _)
    try simp only [Act.put]
    refine H.tk (i := 3) (v := (Value.int IntKind.i64 1)) (fun w _ => rfl) hS ?_
    try simp only [Act.put, List.setIfInBounds_toArray, List.set_cons_zero, List.set_cons_succ]
    refine wpAnyH_done (by kernel_rfl) ?_ _
    go_wp2_with fail
    exact bodyPost_ret (v := .tuple #[.slice none 0 0, .agg (Kx.cells c), .int .i64 1]) (results_mid (ty := 25) rfl _ _ (w.heap.size + 1 + 1) (.agg (Kx.cells c)) (.slice none 0 0) rfl rfl (loadVarK shX (R0.out.put (Kx.cells c)) rfl) (.int .i64 1) rfl) rfl (AnsW.no HY.out (Box.below_setRow HB.out (by omega) _))
  rw [ho] at P1
  by_cases k : m.kind = 11
  · obtain ⟨ls, cf, er, hq⟩ : ∃ a b d, updP c m = (a, b, d) := ⟨_, _, _, rfl⟩
    have HY := Lib.hid (show tlvP c m = (ls, cf, er) by unfold tlvP; rw [ho, if_pos rfl, hq])
    have hu := ok_u ho k
    have PU := Lib.hid (fun V (y : m.In V) => (update_any c m V y ln lb hc hu).mono (fun e w' x => AnsW.said x hq))
    clear ho hc lb ln hp hu hq
    go_enter Tryz.func18, Tryz.ntmps18
    go_upto_region 1 with fail
    change Code.wp _ _ _ _ (((w.alloc (.cells c.cells 25)).alloc (.cells m.cells 29)).alloc (.cells Kx.zero.cells 25))
    have D := Lib.hid ((Us.start w c m hm).call (balloc (Below.refl _ _) (.cells Kx.zero.cells 25)))
    have R0 := Lib.hid (res_new w c m)
    clear hm
    generalize ((w.alloc (.cells c.cells 25)).alloc (.cells m.cells 29)).alloc (.cells Kx.zero.cells 25) = V at *
    go_wp2_with (first | (refine wpList_loadM (b := w.heap.size + 1) (m := m) rfl _ rfl rfl D.out.m0 ?_))
    refine (P1.out _ D.out.i (HT.out.below D.out.bel)).mono ?_
    rintro r w1 ⟨rfl, hb⟩
    have D := Lib.hid (D.out.call hb)
    have R0 := Lib.hid (R0.out.below hb)
    clear hb P1
    generalize w1 = V at *
    have c0 := D.out.m0.cs.c0
    rw [k] at c0
    clear k
    have hzV : w.heap.size + 1 + 1 < V.heap.size := R0.out.lt
    go_wp2_with (first | (refine wpList_loadX (b := w.heap.size) (m := c) rfl _ rfl rfl D.out.s0 ?_) | (refine wpList_loadM (b := w.heap.size + 1) (m := m) rfl _ rfl rfl D.out.m0 ?_))
    refine (PU.out _ D.out.i).mono ?_
    rintro r w2 ⟨qa, qk, rfl, hl, hb⟩
    have D := Lib.hid (D.out.call hb)
    have R0 := Lib.hid (R0.out.below hb)
    have HL := Lib.hid hl
    clear hb hl PU c0
    go_wp2_with (first | (refine wpList_storeX (b := w.heap.size + 1 + 1) (m := Kx.zero) (m' := cf) rfl _ _ rfl rfl rfl R0.out ?_))
    exact bodyPost_ret (v := .tuple #[.slice qa ls.length qk, .agg (Kx.cells cf), .int .i64 er]) (results_mid (ty := 25) rfl _ _ (w.heap.size + 1 + 1) (.agg (Kx.cells cf)) (.slice qa ls.length qk) rfl rfl (loadVarK shX (R0.out.put (Kx.cells cf)) rfl) (.int .i64 er) rfl) rfl (by rw [HY.out]; exact ⟨qa, qk, rfl, (HL.out.under hzV _).mono (by omega), Box.below_setRow D.out.bel (by omega) _⟩)
  have PA := Lib.hid (fun V (y : m.In V) (z : Tab V) => alone_any m V y ln lb hp z ho k)
  have HY := Lib.hid (show tlvP c m = ([⟨(enc1 (othE m)).toArray⟩], c, 0) by
    unfold tlvP updP elsL ctxL badC
    rw [ho, if_pos rfl, decide_eq_false k, if_neg k, if_neg k]
    rfl)
  generalize (⟨(enc1 (othE m)).toArray⟩ : ByteArray) = x at *
  have e11 : (m.kind == 11) = false := by simpa using k
  clear ho hc lb ln hp k
  go_enter Tryz.func18, Tryz.ntmps18
  go_upto_region 1 with fail
  change Code.wp _ _ _ _ (((w.alloc (.cells c.cells 25)).alloc (.cells m.cells 29)).alloc (.cells Kx.zero.cells 25))
  have D := Lib.hid ((Us.start w c m hm).call (balloc (Below.refl _ _) (.cells Kx.zero.cells 25)))
  have R0 := Lib.hid (res_new w c m)
  clear hm
  generalize ((w.alloc (.cells c.cells 25)).alloc (.cells m.cells 29)).alloc (.cells Kx.zero.cells 25) = V at *
  go_wp2_with (first | (refine wpList_loadM (b := w.heap.size + 1) (m := m) rfl _ rfl rfl D.out.m0 ?_))
  refine (P1.out _ D.out.i (HT.out.below D.out.bel)).mono ?_
  rintro r w1 ⟨rfl, hb⟩
  have D := Lib.hid (D.out.call hb)
  have R0 := Lib.hid (R0.out.below hb)
  clear hb P1
  generalize w1 = V at *
  have c0 := D.out.m0.cs.c0
  have hzV : w.heap.size + 1 + 1 < V.heap.size := R0.out.lt
  go_upto_region 5 with fail
  have HT := Lib.hid (HT.out.below D.out.bel.drew)
  have R0 := Lib.hid (show Bk 25 V.drew (w.heap.size + 1 + 1) Kx.zero.cells from R0.out)
  refine wp_region_held_drew (S := fun W => Us w c m W) (by kernel_rfl) D.out.drew (fun hS => ?_)
  have hzV : w.heap.size + 1 + 1 < V.drew.heap.size := hzV
  clear D c0 e11
  generalize V.drew = X0 at *
  refine H.tk (i := 0) (v := .agg (M.cells m)) ?h0x1 hS ?_
  case h0x1 => exact (fun w hw => run_loadM (x := .tmp 3) rfl rfl hw.m0)
  try simp only [Act.put, List.setIfInBounds_toArray, List.set_cons_zero, List.set_cons_succ]
  refine H.tk (i := 3) (v := .agg (Kx.cells c)) ?h3x2 hS ?_
  case h3x2 => exact (fun w hw => run_loadK shX (x := .tmp 2) rfl rfl hw.s0 rfl)
  try simp only [Act.put, List.setIfInBounds_toArray, List.set_cons_zero, List.set_cons_succ]
  refine H.one (i := 1) (by simp only [List.getElem?_toArray, List.getElem?_cons_succ, List.getElem?_cons_zero]; rfl) (by kernel_rfl) (by kernel_rfl) (fun K hK => ?_)
  go_simp
  refine (PA.out _ hS.i HT.out).mono ?_
  rintro e X1 ⟨rfl, hb⟩
  have hS' := hS.call hb
  have R0 := Lib.hid (R0.out.below hb)
  have hz1 := hb.size
  refine hK.out _ _ hS' ?_
  clear hK K hb hS
  have hS := hS'
  clear hS'
  try simp only [Act.put, List.setIfInBounds_toArray, List.set_cons_zero, List.set_cons_succ]
  refine H.one (i := 2) (by simp only [List.getElem?_toArray, List.getElem?_cons_succ, List.getElem?_cons_zero]; rfl) (by kernel_rfl) (by kernel_rfl) (fun K hK => ?_)
  refine wp_valW rfl (ex_bs (s := x) rfl rfl) ?_
  have bel := balloc (Below.refl X1.heap.size X1) (.cells #[.string x] 9)
  have hS' := hS.call bel
  have R0 := Lib.hid (R0.out.below bel)
  refine hK.out _ _ hS' ?_
  have HL := Lib.hid (Js.one_new x X1)
  clear hK K hS bel
  have hS := hS'
  clear hS'
  generalize X1.alloc (.cells #[.string x] 9) = X2 at *
  have hzX : w.heap.size + 1 + 1 < X1.heap.size := by omega
  clear hz1
  generalize X1.heap.size = g8 at *
  try simp only [Act.put, List.setIfInBounds_toArray, List.set_cons_zero, List.set_cons_succ]
  refine H.tk (i := 4) (v := .slice (some ⟨g8, 0, none⟩) 1 1) ?h4x3 hS ?_
  case h4x3 => exact (fun w hw => by go_simp)
  try simp only [Act.put, List.setIfInBounds_toArray, List.set_cons_zero, List.set_cons_succ]
  refine H.one (i := 5) (by simp only [List.getElem?_toArray, List.getElem?_cons_succ, List.getElem?_cons_zero]; rfl) (by kernel_rfl) (by kernel_rfl) (fun K hK => ?_)
  refine wp_store_row 25 _ _ rfl (w.heap.size + 1 + 1) (Kx.cells c) rfl rfl 25 Kx.zero.cells R0.out infoX rfl (oneX _) ?_
  refine hK.out _ _ (hS.row (by omega) _) ?_
  clear hK K
  have hS := (show Us w c m (X2.setRow (w.heap.size + 1 + 1) (Kx.cells c)) from hS.row (by omega) _)
  try simp only [Act.put]
  refine H.tk (i := 6) (v := (Value.int IntKind.i64 0)) (fun w _ => rfl) hS ?_
  try simp only [Act.put, List.setIfInBounds_toArray, List.set_cons_zero, List.set_cons_succ]
  refine wpAnyH_done (by kernel_rfl) ?_ _
  go_wp2_with fail
  exact bodyPost_ret (v := .tuple #[.slice (some ⟨g8, 0, none⟩) 1 1, .agg (Kx.cells c), .int .i64 0]) (results_mid (ty := 25) rfl _ _ (w.heap.size + 1 + 1) (.agg (Kx.cells c)) (.slice (some ⟨g8, 0, none⟩) 1 1) rfl rfl (loadVarK shX (R0.out.put (Kx.cells c)) rfl) (.int .i64 0) rfl) rfl (by rw [HY.out]; exact ⟨_, 1, rfl, (HL.out.under (by omega) _).mono (by omega), hS.bel⟩)
set_option maxHeartbeats 25600000 in
set_option maxRecDepth 100000 in
theorem put_any (c : Kx) (m : M) (w : World) (hm : m.In w) (ln : m.sl.length ≤ 2000) (lb : ∀ x ∈ m.sl, x.1.size ≤ 1099511627776) (hp : m.pfx.size ≤ maxLen) (hc : okC c = true) (ht : Tab w) : Calls Tryz.prog 9 #[.agg c.cells, .agg m.cells] w fun e w' => e = .returned (.tuple #[.string (putL c m).1, .agg (putL c m).2.1.cells, .int .i64 (putL c m).2.2]) ∧ Below w.heap.size w w' := by
  have hsz := tlv_size c m
  have hq := put_tlv c m
  have PT := fun V (y : m.In V) (z : Tab V) => tlvs_any c m V y ln lb hp hc z
  obtain ⟨ls, cf, er, he⟩ : ∃ a b d, tlvP c m = (a, b, d) := ⟨_, _, _, rfl⟩
  rw [he] at hsz hq PT
  rw [hq]
  have HSZ := Lib.hid (show ls.length ≤ 1000 ∧ (flat ls).length ≤ 1000000 from hsz)
  have PT := Lib.hid (fun V (y : m.In V) (z : Tab V) => (PT V y z).mono (fun e w' x => AnsW.said x rfl))
  have HT := Lib.hid ht
  clear hsz hq he ln lb hp hc ht
  show Calls _ _ _ _ fun e w' => e = .returned (.tuple #[.string (catJ ls), .agg cf.cells, .int .i64 er]) ∧ Below w.heap.size w w'
  go_enter Tryz.func9, Tryz.ntmps9
  go_upto_region 1 with fail
  change Code.wp _ _ _ _ (((w.alloc (.cells c.cells 25)).alloc (.cells m.cells 29)).alloc (.cells Kx.zero.cells 25))
  have D := Lib.hid ((Us.start w c m hm).call (balloc (Below.refl _ _) (.cells Kx.zero.cells 25)))
  have R0 := Lib.hid (res_new w c m)
  clear hm
  generalize ((w.alloc (.cells c.cells 25)).alloc (.cells m.cells 29)).alloc (.cells Kx.zero.cells 25) = V at *
  have hzV : w.heap.size + 1 + 1 < V.heap.size := R0.out.lt
  go_wp2_with (first | (refine wpList_loadX (b := w.heap.size) (m := c) rfl _ rfl rfl D.out.s0 ?_) | (refine wpList_loadM (b := w.heap.size + 1) (m := m) rfl _ rfl rfl D.out.m0 ?_))
  refine (PT.out _ D.out.i (HT.out.below D.out.bel)).mono ?_
  rintro r w1 ⟨qa, qk, rfl, hl, hb⟩
  have D := Lib.hid (D.out.call hb)
  have R0 := Lib.hid (R0.out.below hb)
  have HL := Lib.hid hl
  have hz1 := hb.size
  clear hl hb PT
  go_upto_region 2 with (refine wpList_storeX (b := w1.heap.size) (m := Kx.zero) (m' := cf) rfl _ _ rfl rfl rfl (Bk.Bk.new 25 w1 Kx.zero.cells) ?_)
  change Code.wp _ _ _ _ ((w1.alloc (.cells Kx.zero.cells 25)).setRow w1.heap.size (Kx.cells cf))
  rw [World.setRow_alloc_new]
  have bel := balloc (Below.refl w1.heap.size w1) (.cells (Kx.cells cf) 25)
  have D := Lib.hid (D.out.call bel)
  have S1 := Lib.hid (Bk.Bk.new 25 w1 (Kx.cells cf))
  have R0 := Lib.hid (R0.out.below bel)
  have HL := Lib.hid (HL.out.below bel)
  have hgz : w.heap.size + 1 + 1 < w1.heap.size := by omega
  clear bel hz1
  generalize w1.alloc (.cells (Kx.cells cf) 25) = V2 at *
  generalize w1.heap.size = g at *
  have R0 := Lib.hid (show Bk 25 V2.drew (w.heap.size + 1 + 1) Kx.zero.cells from R0.out)
  have HB := Lib.hid (show Below w.heap.size w V2.drew from D.out.bel.drew)
  refine wp_region_held_drew (S := fun X => Lst V.heap.size X (.slice qa ls.length qk) ls ∧ Bk 25 X g cf.cells) (by kernel_rfl) ⟨HL.out.below (Below.refl _ V2).drew, S1.out⟩ (fun hS => ?_)
  clear D HL S1
  generalize V2.drew = X0 at *
  refine H.tk (i := 0) (v := .slice qa ls.length qk) ?h0x1v hS ?_
  case h0x1v => exact (fun w hw => by go_simp)
  try simp only [Act.put, List.setIfInBounds_toArray, List.set_cons_zero, List.set_cons_succ]
  refine H.tk (i := 2) (v := .agg (Kx.cells cf)) ?h2x2v hS ?_
  case h2x2v => exact (fun w hw => run_loadK shX (x := .tmp 8) rfl rfl hw.2 rfl)
  try simp only [Act.put, List.setIfInBounds_toArray, List.set_cons_zero, List.set_cons_succ]
  refine H.tk (i := 3) (v := .int .i64 er) ?h3x3v hS ?_
  case h3x3v => exact (fun w hw => by go_simp)
  try simp only [Act.put, List.setIfInBounds_toArray, List.set_cons_zero, List.set_cons_succ]
  refine H.one (i := 1) (by simp only [List.getElem?_toArray, List.getElem?_cons_succ, List.getElem?_cons_zero]; rfl) (by kernel_rfl) (by kernel_rfl) (fun K hK => ?_)
  go_simp
  refine (Js.join_any qa qk ls _ hS.1 HSZ.out.1 HSZ.out.2).mono ?_
  rintro e X1 ⟨rfl, hb⟩
  have hS' := And.intro (hS.1.below hb) (hS.2.below hb)
  have R0 := Lib.hid (R0.out.below hb)
  have HB := Lib.hid (bcall HB.out hb)
  refine hK.out _ _ hS' ?_
  clear hK K hb hS
  have hS := hS'
  clear hS'
  try simp only [Act.put, List.setIfInBounds_toArray, List.set_cons_zero, List.set_cons_succ]
  refine H.tk (i := 4) (v := .string (catJ ls)) ?h4x4v hS ?_
  case h4x4v => exact (fun w hw => by go_simp)
  try simp only [Act.put, List.setIfInBounds_toArray, List.set_cons_zero, List.set_cons_succ]
  refine H.one (i := 5) (by simp only [List.getElem?_toArray, List.getElem?_cons_succ, List.getElem?_cons_zero]; rfl) (by kernel_rfl) (by kernel_rfl) (fun K hK => ?_)
  refine wp_store_row 25 _ _ rfl (w.heap.size + 1 + 1) (Kx.cells cf) rfl rfl 25 Kx.zero.cells R0.out infoX rfl (oneX _) ?_
  refine hK.out _ _ ⟨hS.1.under hzV _, hS.2.row (by omega) _⟩ ?_
  clear hK K
  have hS := (show Lst V.heap.size (X1.setRow (w.heap.size + 1 + 1) (Kx.cells cf)) (.slice qa ls.length qk) ls ∧ Bk 25 (X1.setRow (w.heap.size + 1 + 1) (Kx.cells cf)) g cf.cells from ⟨hS.1.under hzV _, hS.2.row (by omega) _⟩)
  try simp only [Act.put]
  refine H.tk (i := 6) (v := .int .i64 er) ?h6x5v hS ?_
  case h6x5v => exact (fun w hw => by go_simp)
  try simp only [Act.put, List.setIfInBounds_toArray, List.set_cons_zero, List.set_cons_succ]
  refine wpAnyH_done (by kernel_rfl) ?_ _
  go_wp2_with fail
  exact bodyPost_ret (v := .tuple #[.string (catJ ls), .agg (Kx.cells cf), .int .i64 er]) (results_mid (ty := 25) rfl _ _ (w.heap.size + 1 + 1) (.agg (Kx.cells cf)) (.string (catJ ls)) rfl rfl (loadVarK shX (R0.out.put (Kx.cells cf)) rfl) (.int .i64 er) rfl) rfl ⟨rfl, Box.below_setRow HB.out (by omega) _⟩
end Go.Proofs.YtfegdblaohhdoaaGreatDoor.Lv
namespace Go.Proofs.YtfegdblaohhdoaaGreatDoor.La
open Go.ChangeShapes Go.WideShapes Go.ChangeAt Go.RowKit
open Go.Proofs.YtfegdblaohhdoaaGreatDoor.Ms
open Go.Proofs.YtfegdblaohhdoaaGreatDoor.Box
open Go.Proofs.YtfegdblaohhdoaaGreatDoor.An
open Go.Proofs.YtfegdblaohhdoaaGreatDoor.Tc
open Go.Proofs.YtfegdblaohhdoaaGreatDoor.J1
open Go.Proofs.YtfegdblaohhdoaaGreatDoor.K1
open Go.Proofs.YtfegdblaohhdoaaGreatDoor.Kb
open Go.Proofs.YtfegdblaohhdoaaGreatDoor.L1
open Go.Proofs.YtfegdblaohhdoaaGreatDoor.L2
open Go.Proofs.YtfegdblaohhdoaaGreatDoor.F1 (encT)
open Go.Proofs.YtfegdblaohhdoaaGreatDoor.Bk (Bk alloc_size wpList_builtK run_loadK)
open Go.Proofs.YtfegdblaohhdoaaGreatDoor.Hs
open Go.Proofs.YtfegdblaohhdoaaGreatDoor.Or (st_yes)
set_option linter.unusedVariables false
set_option maxRecDepth 100000
theorem bytes_same (a : ByteArray) : (a.toList == a.toList) = true := by simp
def i0 : ByteArray := ⟨#[97, 98, 99, 100, 101, 102, 103, 104]⟩
def a0 : ByteArray := ⟨#[10, 1, 7, 0]⟩
def c0 : Kx := ⟨⟨#[]⟩, ⟨#[10, 1, 2, 0]⟩, ⟨#[]⟩, ⟨#[]⟩, ⟨#[]⟩, ⟨#[]⟩, i0⟩
def c1 : Kx := { c0 with p1 := a0 }
def m0 : M := { M.zero with kind := 11, ae := 1, pfx := a0, plen := 24, interval := 1, seq := 2, metric := 3, id := i0 }
def s0 : ByteArray := ⟨#[8, 11, 1, 128, 24, 2, 0, 1, 0, 2, 0, 3, 7]⟩
theorem ok_c : okC c0 = true := by decide
theorem bare_0 : bare m0 = true := by
  unfold bare
  rw [(K1.is_11 (m := m0) rfl).1, (K1.is_11 (m := m0) rfl).2]
  unfold M.same M.flatE Own.k11 m0 M.zero
  simp
theorem ok_u : okU m0 = true := by
  unfold okU
  rw [bare_0]
  decide +kernel
theorem ok_m : okL m0 = true := by unfold okL; rw [ok_u]; simp
theorem bad_0 : badC c0 m0 = false := by decide +kernel
theorem om_0 : omN c0 m0 = 2 := by
  unfold omN
  rw [if_neg (by decide)]
  decide +kernel
theorem els_0 : elsL c0 m0 = [(updD m0 2, 8)] := by
  unfold elsL wayE
  rw [if_pos (show m0.kind = 11 from rfl), if_neg (show ¬ m0.metric = 65535 by decide), if_pos (show m0.id = c0.id from rfl), if_pos (show m0.next = c0.nx (fam m0.ae) from rfl), om_0]
  rfl
theorem ctx_0 : ctxL c0 m0 = c1 := by
  unfold ctxL wayC knowP
  rw [if_pos (show m0.kind = 11 from rfl), if_neg (show ¬ m0.metric = 65535 by decide), if_neg (show ¬ m0.ae = 0 by decide)]
  rfl
theorem put_0 : putL c0 m0 = (s0, c1, 0) := by
  unfold putL
  rw [ok_m, bad_0, if_pos rfl, if_neg (by decide), els_0, ctx_0]
  rfl
theorem in_0 (V : World) : m0.In V := ⟨DRow.nil _ _, SRow.nil _ _, Nat.zero_le _, Nat.zero_le _⟩
set_option maxHeartbeats 12800000 in
theorem awake_any (w : World) (ht : Tab w) : Calls Tryz.prog 8 #[] w fun e w' => e = .returned (.bool true) ∧ Below w.heap.size w w' := by
  have P1 := Lib.hid (fun V (y : Tab V) => Lv.put_any c0 m0 V (in_0 V) (Nat.zero_le _) (fun x hx => absurd hx (by show ¬ x ∈ ([] : List El); simp)) (by show (4 : Nat) ≤ maxLen; decide) ok_c y)
  rw [put_0] at P1
  have P2 := Lib.hid (fun V (y : Tab V) => L5.right_any m0 V (in_0 V) (fun x hx => absurd hx (by show ¬ x ∈ ([] : List El); simp)) (by show (4 : Nat) ≤ maxLen; decide) y)
  rw [ok_m] at P2
  have HT := Lib.hid ht
  clear ht
  go_enter Tryz.func8, Tryz.ntmps8
  go_upto_region 2 with (first | (refine wpList_builtK rfl 22 _ rfl #[.string ⟨#[]⟩, .string ⟨#[10, 1, 2, 0]⟩, .string ⟨#[]⟩, .string ⟨#[]⟩] (by kernel_rfl) ?_) | (refine wpList_builtK rfl 25 _ rfl c0.cells (by kernel_rfl) ?_) | (refine wpList_storeX (b := w.heap.size) (m := Kx.zero) (m' := c0) rfl _ _ rfl rfl rfl (Bk.Bk.new 25 w Kx.zero.cells) ?_))
  change Code.wp _ _ _ _ ((w.alloc (.cells Kx.zero.cells 25)).setRow w.heap.size c0.cells)
  rw [World.setRow_alloc_new]
  have bel := balloc (Below.refl w.heap.size w) (.cells c0.cells 25)
  have S0 := Lib.hid (Bk.Bk.new 25 w c0.cells)
  have HB := Lib.hid bel
  clear bel
  generalize w.alloc (.cells c0.cells 25) = V at *
  go_upto_region 3 with (first | (refine wpList_builtK rfl 29 _ rfl (M.cells m0) (by kernel_rfl) ?_) | (refine wpList_storeM (b := V.heap.size) (m := M.zero) (m' := m0) rfl _ _ rfl rfl rfl (Bx.new V M.zero) ?_))
  change Code.wp _ _ _ _ ((V.alloc (.cells M.zero.cells 29)).setRow V.heap.size m0.cells)
  rw [World.setRow_alloc_new]
  have bel := balloc (Below.refl V.heap.size V) (.cells m0.cells 29)
  have S0 := Lib.hid (S0.out.below bel)
  have M0 := Lib.hid (Bx.new V m0)
  have HB := Lib.hid (bcall HB.out bel)
  clear bel
  generalize V.alloc (.cells m0.cells 29) = V2 at *
  generalize V.heap.size = g at *
  go_wp2_with (first | (refine wpList_loadX (b := w.heap.size) (m := c0) rfl _ rfl rfl S0.out ?_) | (refine wpList_loadM (b := g) (m := m0) rfl _ rfl rfl M0.out ?_))
  refine (P1.out _ (HT.out.below HB.out)).mono ?_
  rintro e w1 ⟨rfl, hb⟩
  have HB := Lib.hid (bcall HB.out hb)
  have M0 := Lib.hid (M0.out.below hb)
  clear hb P1 S0
  go_upto_region 4 with (refine wpList_storeX (b := w1.heap.size) (m := Kx.zero) (m' := c1) rfl _ _ rfl rfl rfl (Bk.Bk.new 25 w1 Kx.zero.cells) ?_)
  change Code.wp _ _ _ _ ((w1.alloc (.cells Kx.zero.cells 25)).setRow w1.heap.size c1.cells)
  rw [World.setRow_alloc_new]
  have bel := balloc (Below.refl w1.heap.size w1) (.cells c1.cells 25)
  have S1 := Lib.hid (Bk.Bk.new 25 w1 c1.cells)
  have HB := Lib.hid (bcall HB.out bel)
  have M0 := Lib.hid (M0.out.below bel)
  clear bel
  generalize w1.alloc (.cells c1.cells 25) = V3 at *
  generalize w1.heap.size = g1 at *
  have s1 := S1.out.cell 1 (.string a0) rfl
  have c6 : V3.cell? ⟨g, 6, none⟩ = some (.string a0) := M0.out.cs.c6
  have q1 := bytes_same a0
  have q2 : (s0.toList == [8, 11, 1, 128, 24, 2, 0, 1, 0, 2, 0, 3, 7]) = true := by rw [ByteArray.toList_eq]; rfl
  generalize a0 = aa at *
  generalize s0 = ss at *
  go_wp2_with (first | (refine st_yes (v := .agg (M.cells m0)) (by rfl) rfl (run_loadM (x := .tmp 2) rfl rfl M0.out) ?_))
  refine (P2.out _ (HT.out.below HB.out)).mono ?_
  rintro e w3 ⟨rfl, hb⟩
  have HB := Lib.hid (bcall HB.out hb)
  clear hb P2 M0
  go_wp2
  go_ret
  exact ⟨rfl, HB.out⟩
end Go.Proofs.YtfegdblaohhdoaaGreatDoor.La
namespace Go.Proofs.YtfegdblaohhdoaaGreatDoor.F4
open Go.ChangeShapes Go.WideShapes Go.ChangeAt Go.RowKit
open Go.Proofs.YtfegdblaohhdoaaGreatDoor.F1
open Go.Proofs.YtfegdblaohhdoaaGreatDoor.F2
open Go.Proofs.YtfegdblaohhdoaaGreatDoor.Bk (Bk Sh loadVarK wpList_builtK wpList_loadK wpList_storeK run_loadK alloc_size)
open Go.Proofs.YtfegdblaohhdoaaGreatDoor.Hs
open Go.Proofs.YtfegdblaohhdoaaGreatDoor.Hx (conv8 ex_built H.storeRow)
open Go.Proofs.YtfegdblaohhdoaaGreatDoor.Tl (cellsT oneT shT Lst TRow bs_one app_one cells_new)
set_option linter.unusedVariables false
set_option maxRecDepth 100000
set_option maxRecDepth 100000

/-- The answer: TLVs, a place, an error; the list is the call's own. -/
def AnsT (p : List T × Int × Int) (w : World) (e : Ending) (w' : World) : Prop :=
  ∃ a c, e = .returned (.tuple #[.slice a p.1.length c, .int .i64 p.2.1, .int .i64 p.2.2]) ∧ Lst w.heap.size w' (.slice a p.1.length c) p.1 ∧ Below w.heap.size w w'
theorem AnsT.no {p : List T × Int × Int} {w w' : World} {c d : Int} (h : p = ([], c, d)) (hb : Below w.heap.size w w') : AnsT p w (.returned (.tuple #[.slice none 0 0, .int .i64 c, .int .i64 d])) w' := by
  subst h
  exact ⟨none, 0, rfl, Lst.nil _ _, hb⟩
theorem AnsT.yes {p : List T × Int × Int} {w w' : World} {a : Option Addr} {c n : Nat} {l : List T} (h : p = (l, 0, 0)) (hn : l.length = n) (hl : Lst w.heap.size w' (.slice a n c) l) (hb : Below w.heap.size w w') : AnsT p w (.returned (.tuple #[.slice a n c, .int .i64 0, .int .i64 0])) w' := by
  subst h hn
  exact ⟨a, c, rfl, hl, hb⟩
end Go.Proofs.YtfegdblaohhdoaaGreatDoor.F4
namespace Go.Proofs.YtfegdblaohhdoaaGreatDoor.F5
open Go.ChangeShapes Go.WideShapes Go.ChangeAt Go.RowKit
open Go.Proofs.YtfegdblaohhdoaaGreatDoor.F1
open Go.Proofs.YtfegdblaohhdoaaGreatDoor.F2
open Go.Proofs.YtfegdblaohhdoaaGreatDoor.F4
open Go.Proofs.YtfegdblaohhdoaaGreatDoor.Bk (Bk Sh wpList_builtK)
open Go.Proofs.YtfegdblaohhdoaaGreatDoor.Hs
open Go.Proofs.YtfegdblaohhdoaaGreatDoor.Hx (conv8 ex_built)
open Go.Proofs.YtfegdblaohhdoaaGreatDoor.Tl (cellsT oneT Lst bs_one app_one cells_new H.bsT H.appT)
set_option linter.unusedVariables false
set_option maxRecDepth 100000
set_option maxRecDepth 100000

set_option maxHeartbeats 6400000 in
theorem rsplit_own (s : ByteArray) (base : Int) (w : World) (hs : s.size ≤ 100000) (h0 : 0 ≤ base) (h1 : base ≤ 1099511627776) : Calls Tryz.prog 37 #[.string s, .int .i64 base] w (AnsT (outT base s) w) := by
  have HS := Lib.hid hs
  have hbs : (s.size : Int) ≤ 100000 := by omega
  clear hs
  go_enter Tryz.func37, Tryz.ntmps37
  go_wp2
  go_loopw [7, 8] (fun v pv wr => ∃ (l : List El) (p : Nat) (r : List UInt8), pv = .int .i64 (p : Int) ∧ Hid ((encT l).length = p) ∧ Hid (Lst w.heap.size wr v (placed base l)) ∧ Hid (okT l) ∧ Hid (s.data.toList = encT l ++ r) ∧ Hid (Below w.heap.size w wr)) (fun _ pv _ => s.size - (intOf pv).toNat)
  case atStart => exact ⟨[], 0, s.data.toList, rfl, Lib.hid rfl, Lib.hid (Lst.nil _ _), Lib.hid okT_nil, Lib.hid rfl, Lib.hid (Below.refl _ _)⟩
  case round =>
    obtain ⟨l, p, r, rfl, HP, HL, HO, HE, HB⟩ := hrel
    have HZ : Hid (s.size = p + r.length) := Lib.hid (by rw [size_of HE.out, List.length_append, HP.out])
    have hp0 : 0 ≤ (p : Int) := Int.natCast_nonneg _
    have hp1 : (p : Int) ≤ 100000 := by have := HZ.out; have := HS.out; omega
    by_cases hu : r = []
    · subst hu
      have HY := Lib.hid (out_yes (base := base) HO.out (by rw [HE.out, List.append_nil]))
      have e1 : ¬ (p : Int) < (s.size : Int) := by have := HZ.out; simp only [List.length_nil] at this; omega
      obtain ⟨a, c, rfl⟩ := HL.out.slice
      have HW := Lib.hid HL.out
      clear HL HP HZ HE
      go_wp2
      go_ret3
      exact AnsT.yes HY.out rfl HW.out HB.out
    obtain ⟨k1, k2, k3⟩ := F1.step HE.out HP.out hu
    have e1 : (p : Int) < (s.size : Int) := by omega
    have i0 := idx s p (p : Int) rfl (by omega)
    have HCC : Hid ((placed base l).length ≤ 100000) := Lib.hid (by rw [placed_len]; have := HS.out; have := HP.out; have := HZ.out; have := len_le l; omega)
    rcases k3 with ⟨b0, r', hc⟩ | ⟨b0, k4, hc⟩ | ⟨n, b0, k4, b1, kn, ⟨k5, hc⟩ | ⟨k5, x, r', hc, x1, x2, x3⟩⟩
    · rw [b0] at i0
      obtain ⟨ho, he⟩ := cut1_some hc
      have HO := Lib.hid (okT_snoc HO.out ho)
      have HE : Hid (s.data.toList = encT (l ++ [(⟨#[]⟩, 0)]) ++ r') := Lib.hid (by rw [HE.out, he, encT_snoc, List.append_assoc])
      have HPL : Hid (placed base (l ++ [(⟨#[]⟩, 0)]) = placed base l ++ [(base + (p : Int), (⟨#[]⟩, 0))]) := Lib.hid (by rw [placed_snoc, HP.out])
      have HP2 : Hid ((encT (l ++ [(⟨#[]⟩, 0)])).length = p + 1) := Lib.hid (by rw [encT_snoc, List.length_append, HP.out]; rfl)
      have HM : Hid (s.size - p > s.size - (p + 1)) := Lib.hid (by omega)
      have HLA := Lib.hid (HL.out.below (balloc (Below.refl _ wr) (.cells (cellsT (base + (p : Int), (⟨#[]⟩, 0))) 62)))
      have HBA := Lib.hid (balloc HB.out (.cells (cellsT (base + (p : Int), (⟨#[]⟩, 0))) 62))
      clear hu hc ho he HZ HP b0 k1 k2 HL HB
      generalize placed base l = lp at *
      go_upto_region 6 with (first | (refine wpList_builtK rfl 62 _ rfl (cellsT (base + (p : Int), (⟨#[]⟩, 0))) (by kernel_rfl) ?_) | (refine bs_one rfl _ rfl (m := (base + (p : Int), (⟨#[]⟩, 0))) rfl ?_) | (at_builtin; refine app_one rfl _ _ rfl w.heap.size _ lp (base + (p : Int), (⟨#[]⟩, 0)) wr.heap.size 1 rfl HLA.out rfl (cells_new (base + (p : Int), (⟨#[]⟩, 0)) wr) HCC.out HBA.out.size ?_))
      intro v' w' hl hgr hb
      have HL := Lib.hid hl
      have HB := Lib.hid (HBA.out.trans hb)
      rw [← HPL.out] at HL
      clear hl hgr hb HLA HBA HPL HCC i0
      go_wp2
      go_roundw
      case rel => exact ⟨l ++ [(⟨#[]⟩, 0)], p + 1, r', by push_cast; rfl, HP2, HL, HO, HE, HB⟩
      case measure => have := HM.out; simp only [intOf]; omega
    · have HY := Lib.hid (out_no (base := base) HO.out HE.out hc hu)
      rw [HP.out] at HY
      have n0 := bt_nn s p
      have l0 := bt_lt s p
      have h2 : (s.size : Int) - (p : Int) < 2 := by omega
      clear hu hc HZ HP HE HO k1 k2 k4 HL HCC
      generalize bt s p = b at *
      go_wp2
      go_ret3
      exact AnsT.no HY.out HB.out
    · have HY := Lib.hid (out_no (base := base) HO.out HE.out hc hu)
      rw [HP.out] at HY
      have n0 := bt_nn s p
      have l0 := bt_lt s p
      have j1 := idx s (p + 1) ((p : Int) + 1) (by push_cast; rfl) (by omega)
      rw [b1] at j1
      have v1 := conv8 (n : Int) (by omega) (by omega)
      have h2 : ¬ (s.size : Int) - (p : Int) < 2 := by omega
      have h4 : (s.size : Int) - (p : Int) - 2 < (n : Int) := by omega
      have kn0 : 0 ≤ (n : Int) := by omega
      have kn1 : (n : Int) ≤ 255 := by omega
      clear hu hc HZ HP HE HO k1 k2 k4 k5 kn b1 HL HCC
      generalize bt s p = b at *
      generalize (n : Int) = ni at *
      go_wp2
      go_ret3
      exact AnsT.no HY.out HB.out
    · obtain ⟨ho, he⟩ := cut1_some hc
      have hl : (enc1 x).length = 2 + n := by rw [enc1_len, if_neg (by rw [x1]; exact b0), x3]
      have HO := Lib.hid (okT_snoc HO.out ho)
      have HE : Hid (s.data.toList = encT (l ++ [x]) ++ r') := Lib.hid (by rw [HE.out, he, encT_snoc, List.append_assoc])
      have HPL : Hid (placed base (l ++ [x]) = placed base l ++ [(base + (p : Int), x)]) := Lib.hid (by rw [placed_snoc, HP.out])
      have HP2 : Hid ((encT (l ++ [x])).length = p + 2 + n) := Lib.hid (by rw [encT_snoc, List.length_append, HP.out, hl]; omega)
      have HM : Hid (s.size - p > s.size - (p + 2 + n)) := Lib.hid (by omega)
      have n0 := bt_nn s p
      have l0 := bt_lt s p
      have j1 := idx s (p + 1) ((p : Int) + 1) (by push_cast; rfl) (by omega)
      rw [b1] at j1
      have v1 := conv8 (n : Int) (by omega) (by omega)
      have v0 := conv8 (bt s p) n0 l0
      have h2 : ¬ (s.size : Int) - (p : Int) < 2 := by omega
      have h4 : ¬ (s.size : Int) - (p : Int) - 2 < (n : Int) := by omega
      have kn0 : 0 ≤ (n : Int) := by omega
      have kn1 : (n : Int) ≤ 255 := by omega
      have s2 := sl_m s ((p : Int) + 2) ((p : Int) + 2 + (n : Int)) (p + 2) (p + 2 + n) (by push_cast; rfl) (by push_cast; rfl) (by omega) (by omega)
      have HX := Lib.hid (show cellsT (base + (p : Int), x) = #[.int .i64 x.2, .int .i64 (base + (p : Int)), .string x.1] from rfl)
      rw [x1, x2] at HX
      clear hu hc ho he hl HZ HP k1 k2 k4 k5 kn b1 x1 x2 x3
      generalize bt s p = b at *
      generalize s.extract (p + 2) (p + 2 + n) = dd at *
      generalize placed base l = lp at *
      go_upto_region 10 with fail
      have q1 : IntKind.i64.wrap ((p : Int) + 2) = (p : Int) + 2 := IntWalk.i64_in _ (by omega)
      have q2 : IntKind.i64.wrap ((p : Int) + 2 + (n : Int)) = (p : Int) + 2 + (n : Int) := IntWalk.i64_in _ (by omega)
      have q3 : wrap64 ((p : Int) + 2) = (p : Int) + 2 := IntWalk.wrap64_in _ (by omega)
      have q4 : wrap64 ((p : Int) + 2 + (n : Int)) = (p : Int) + 2 + (n : Int) := IntWalk.wrap64_in _ (by omega)
      have q5 : IntKind.i64.wrap (base + (p : Int)) = base + (p : Int) := IntWalk.i64_in _ (by omega)
      have q6 : wrap64 (base + (p : Int)) = base + (p : Int) := IntWalk.wrap64_in _ (by omega)
      refine wp_region_held_drew (S := fun _ => True) (by kernel_rfl) trivial (fun hS => ?_)
      have HL := Lib.hid (show Lst w.heap.size wr.drew u7 lp from HL.out)
      have HB := Lib.hid (HB.out.drew)
      generalize wr.drew = w1 at *
      have HLA := Lib.hid (HL.out.below (balloc (Below.refl _ w1) (.cells (cellsT (base + (p : Int), x)) 62)))
      have HBA := Lib.hid (balloc HB.out (.cells (cellsT (base + (p : Int), x)) 62))
      refine H.tk (i := 0) (v := ?v0) ?h0 hS ?_
      case h0 => (intro w hw; go_simp; first | done | (with_reducible rfl))
      try simp only [Act.put, List.setIfInBounds_toArray, List.set_cons_zero, List.set_cons_succ]
      refine H.tk (i := 1) (v := ?v1) ?h1 hS ?_
      case h1 => (intro w hw; go_simp; first | done | (with_reducible rfl))
      try simp only [Act.put, List.setIfInBounds_toArray, List.set_cons_zero, List.set_cons_succ]
      refine H.tk (i := 2) (v := ?v2) ?h2 hS ?_
      case h2 => (intro w hw; go_simp; first | done | (with_reducible rfl))
      try simp only [Act.put, List.setIfInBounds_toArray, List.set_cons_zero, List.set_cons_succ]
      refine H.tk (i := 3) (v := ?v3) ?h3 hS ?_
      case h3 => (intro w hw; go_simp; first | done | (with_reducible rfl))
      try simp only [Act.put, List.setIfInBounds_toArray, List.set_cons_zero, List.set_cons_succ]
      refine H.tk (i := 4) (v := ?v4) ?h4 hS ?_
      case h4 => (intro w hw; go_simp; first | done | (with_reducible rfl))
      try simp only [Act.put, List.setIfInBounds_toArray, List.set_cons_zero, List.set_cons_succ]
      refine H.tk (i := 5) (v := ?v5) ?h5 hS ?_
      case h5 => (intro w hw; go_simp; first | done | (with_reducible rfl))
      try simp only [Act.put, List.setIfInBounds_toArray, List.set_cons_zero, List.set_cons_succ]
      refine H.tk (i := 6) (v := ?v6) ?h6 hS ?_
      case h6 => (intro w hw; go_simp; first | done | (with_reducible rfl))
      try simp only [Act.put, List.setIfInBounds_toArray, List.set_cons_zero, List.set_cons_succ]
      refine H.tk (i := 7) (v := ?v7) ?h7 hS ?_
      case h7 => (intro w hw; go_simp; first | done | (with_reducible rfl))
      try simp only [Act.put, List.setIfInBounds_toArray, List.set_cons_zero, List.set_cons_succ]
      refine H.tk (i := 8) (v := ?v8) ?h8 hS ?_
      case h8 => (intro w hw; go_simp; first | done | (with_reducible rfl))
      try simp only [Act.put, List.setIfInBounds_toArray, List.set_cons_zero, List.set_cons_succ]
      refine H.tk (i := 9) (v := ?v9) ?h9 hS ?_
      case h9 => (intro w hw; go_simp; first | done | (with_reducible rfl))
      try simp only [Act.put, List.setIfInBounds_toArray, List.set_cons_zero, List.set_cons_succ]
      refine H.tk (i := 10) (v := ?v10) ?h10 hS ?_
      case h10 => (intro w hw; go_simp; first | done | (with_reducible rfl))
      try simp only [Act.put, List.setIfInBounds_toArray, List.set_cons_zero, List.set_cons_succ]
      refine H.tk (i := 11) (v := ?v11) ?h11 hS ?_
      case h11 => (intro w hw; go_simp; first | done | (with_reducible rfl))
      try simp only [Act.put, List.setIfInBounds_toArray, List.set_cons_zero, List.set_cons_succ]
      refine H.tk (i := 12) (v := ?v12) ?h12 hS ?_
      case h12 => (intro w hw; go_simp; first | done | (with_reducible rfl))
      try simp only [Act.put, List.setIfInBounds_toArray, List.set_cons_zero, List.set_cons_succ]
      refine H.tk (i := 13) (v := ?v13) ?h13 hS ?_
      case h13 => (intro w hw; go_simp; first | done | (with_reducible rfl))
      try simp only [Act.put, List.setIfInBounds_toArray, List.set_cons_zero, List.set_cons_succ]
      refine H.tk (i := 14) (v := ?v14) ?h14 hS ?_
      case h14 => (intro w hw; go_simp; first | done | (with_reducible rfl))
      try simp only [Act.put, List.setIfInBounds_toArray, List.set_cons_zero, List.set_cons_succ]
      refine H.tk (i := 15) (v := ?v15) ?h15 hS ?_
      case h15 => (intro w hw; go_simp; first | done | (with_reducible rfl))
      try simp only [Act.put, List.setIfInBounds_toArray, List.set_cons_zero, List.set_cons_succ]
      refine H.tk (i := 16) (v := .agg (cellsT (base + (p : Int), x))) ?h16 hS ?_
      case h16 => rw [HX.out]; exact fun w _ => ex_built rfl (by kernel_rfl)
      try simp only [Act.put, List.setIfInBounds_toArray, List.set_cons_zero, List.set_cons_succ]
      refine H.bsT (i := 17) (m := (base + (p : Int), x)) (by simp only [List.getElem?_toArray, List.getElem?_cons_succ, List.getElem?_cons_zero]; rfl) (by kernel_rfl) (by kernel_rfl) rfl _ rfl rfl trivial ?_
      try simp only [Act.put, List.setIfInBounds_toArray, List.set_cons_zero, List.set_cons_succ]
      refine H.appT (i := 18) (by simp only [List.getElem?_toArray, List.getElem?_cons_succ, List.getElem?_cons_zero]; rfl) (by kernel_rfl) (by kernel_rfl) rfl (.tmp 53) (.tmp 70) rfl w.heap.size _ lp (base + (p : Int), x) w1.heap.size 1 rfl HLA.out rfl (cells_new (base + (p : Int), x) w1) HCC.out HBA.out.size (fun _ _ => trivial) ?_
      intro v' w' hl _ hb
      try simp only [Act.put, List.setIfInBounds_toArray, List.set_cons_zero, List.set_cons_succ]
      refine H.tk (i := 19) (v := ?v19) ?h19 hS ?_
      case h19 => (intro w hw; go_simp; first | done | (with_reducible rfl))
      try simp only [Act.put, List.setIfInBounds_toArray, List.set_cons_zero, List.set_cons_succ]
      refine wpAnyH_done (by kernel_rfl) ?_ _
      have HL := Lib.hid hl
      have HB := Lib.hid (HBA.out.trans hb)
      rw [← HPL.out] at HL
      clear hl hb HLA HBA HPL HCC HX s2 i0 j1 v0 v1
      go_wp2
      go_roundw
      case rel => exact ⟨l ++ [x], p + 2 + n, r', by push_cast; rfl, HP2, HL, HO, HE, HB⟩
      case measure => have := HM.out; simp only [intOf]; omega
end Go.Proofs.YtfegdblaohhdoaaGreatDoor.F5
namespace Go.Proofs.YtfegdblaohhdoaaGreatDoor.Lc
open Go.ChangeShapes Go.WideShapes Go.ChangeAt Go.RowKit
open Go.Proofs.YtfegdblaohhdoaaGreatDoor.Ms
open Go.Proofs.YtfegdblaohhdoaaGreatDoor.Box
open Go.Proofs.YtfegdblaohhdoaaGreatDoor.An
open Go.Proofs.YtfegdblaohhdoaaGreatDoor.K1
open Go.Proofs.YtfegdblaohhdoaaGreatDoor.L2
open Go.Proofs.YtfegdblaohhdoaaGreatDoor.Cx
open Go.Proofs.YtfegdblaohhdoaaGreatDoor.Bk (Bk alloc_size)
open Go.Proofs.YtfegdblaohhdoaaGreatDoor.F1 (T encT placed placed_append placed_len outT out_yes)
open Go.Proofs.YtfegdblaohhdoaaGreatDoor.Tl (Lst)
set_option linter.unusedVariables false
set_option maxRecDepth 100000
/-- What the law's two boxes hold, behind where the call began. -/
structure Vs (w : World) (c : Kx) (m : M) (W : World) : Prop where
  s0 : Bk 25 W w.heap.size c.cells
  m0 : Bx W (w.heap.size + 1) m
  d : DRow W m.la m.ll
  s : SRow W m.sa m.sl
  bel : Below w.heap.size w W
theorem Vs.call {w V W : World} {c : Kx} {m : M} (h : Vs w c m V) (hb : Below V.heap.size V W) : Vs w c m W := ⟨h.s0.below hb, h.m0.below hb, h.d.below hb, h.s.below hb, bcall h.bel hb⟩
theorem Vs.start (w : World) (c : Kx) (m : M) (hd : DRow w m.la m.ll) (hs : SRow w m.sa m.sl) : Vs w c m ((w.alloc (.cells c.cells 25)).alloc (.cells m.cells 29)) := by
  have hb := balloc (balloc (Below.refl _ w) (.cells c.cells 25)) (.cells m.cells 29)
  refine ⟨(Bk.Bk.new 25 w c.cells).old _, ?_, hd.below hb, hs.below hb, hb⟩
  have := Bx.new (w.alloc (.cells c.cells 25)) m
  rw [alloc_size] at this
  exact this
theorem Vs.drew {w V : World} {c : Kx} {m : M} (h : Vs w c m V) : Vs w c m V.drew := h.call (Below.refl _ V).drew
theorem put_no {c : Kx} {m : M} (h : okL m = false) : putL c m = (ByteArray.empty, c, 1) := by unfold putL; rw [h]; rfl
theorem put_bad {c : Kx} {m : M} (h : okL m = true) (hb : badC c m = true) : putL c m = (ByteArray.empty, c, 9) := by unfold putL; rw [h, hb]; rfl
theorem put_yes {c : Kx} {m : M} (h : okL m = true) (hb : badC c m = false) : putL c m = (⟨(encT (elsL c m)).toArray⟩, ctxL c m, 0) := by unfold putL; rw [h, hb]; rfl
theorem split_yes {c : Kx} {m : M} (h : okL m = true) (hb : badC c m = false) : outT 0 ⟨(encT (elsL c m)).toArray⟩ = (placed 0 (elsL c m), 0, 0) := out_yes (els_ok h hb) rfl
end Go.Proofs.YtfegdblaohhdoaaGreatDoor.Lc
namespace Go.Proofs.YtfegdblaohhdoaaGreatDoor.Lm
open Go.ChangeShapes Go.WideShapes Go.ChangeAt Go.RowKit
open Go.Proofs.YtfegdblaohhdoaaGreatDoor.Ms
open Go.Proofs.YtfegdblaohhdoaaGreatDoor.Box
open Go.Proofs.YtfegdblaohhdoaaGreatDoor.All
open Go.Proofs.YtfegdblaohhdoaaGreatDoor.An
open Go.Proofs.YtfegdblaohhdoaaGreatDoor.Ap
open Go.Proofs.YtfegdblaohhdoaaGreatDoor.Kb
set_option linter.unusedVariables false
set_option maxRecDepth 100000
set_option maxRecDepth 100000

theorem own_ne {w : World} {B1 B2 : Nat} {e1 e2 : TypeId} {s1 s2 : Nat} {v1 v2 : Value} {n1 n2 : Nat} {x1 x2 : List Value} (h1 : w.ownsRow B1 e1 s1 v1 n1 x1) (h2 : w.ownsRow B2 e2 s2 v2 n2 x2) (hn : e1 ≠ e2) : v1.ownBlock = none ∨ v1.ownBlock ≠ v2.ownBlock := by
  rcases h1.2 with ⟨rfl, _⟩ | ⟨g, cap, cur, rfl, _, c, _⟩
  · exact .inl rfl
  · refine .inr fun he => ?_
    rcases h2.2 with ⟨rfl, _⟩ | ⟨g2, cap2, cur2, rfl, _, c2, _⟩
    · cases he
    · obtain rfl : g = g2 := Option.some.inj he
      rw [c] at c2
      injection c2 with c2
      injection c2 with _ c2
      exact hn c2
/-- The call's own list of the messages l, and their Subs (the list begins at block B, the Subs at block S). -/
def LM (B S : Nat) (w : World) (v : Value) (l : List M) : Prop := Ap.Lst B w v l ∧ ∀ m ∈ l, m.ll = [] ∧ Sx.Lst S w (.slice m.sa m.sl.length m.sc) m.sl
theorem LM.nil (B S : Nat) (w : World) : LM B S w (.slice none 0 0) [] := ⟨Ap.Lst.nil B w, fun m hm => absurd hm (by simp)⟩
theorem LM.below {B S : Nat} {w w' : World} {v : Value} {l : List M} (h : LM B S w v l) (hb : Below w.heap.size w w') : LM B S w' v l := ⟨h.1.below hb, fun m hm => ⟨(h.2 m hm).1, (h.2 m hm).2.below hb⟩⟩
theorem LM.slice {B S : Nat} {w : World} {v : Value} {l : List M} (h : LM B S w v l) : ∃ a c, v = .slice a l.length c := h.1.slice
theorem ap_under {B g : Nat} {w : World} {v : Value} {l : List M} (h : Ap.Lst B w v l) (hg : g < B) (cs : Array Value) : Ap.Lst B (w.setRow g cs) v l := by
  refine ⟨h.1, ?_⟩
  rcases h.2 with h | ⟨k, cap, cur, a, b, c, d⟩
  · exact .inl h
  · exact .inr ⟨k, cap, cur, a, b, (setRow_other w g k cs (by omega)).trans c, d⟩
theorem LM.under {B S g : Nat} {w : World} {v : Value} {l : List M} (h : LM B S w v l) (hg : g < B) (hs : g < S) (cs : Array Value) : LM B S (w.setRow g cs) v l := ⟨ap_under h.1 hg cs, fun m hm => ⟨(h.2 m hm).1, lst_under (h.2 m hm).2 hs cs⟩⟩
/-- As a list that is handed back. -/
theorem LM.own {B S : Nat} {w : World} {a : Option Addr} {c : Nat} {l : List M} (h : LM B S w (.slice a l.length c) l) (hS : S ≤ B) : MOwn S w a l := by
  intro i hi
  rcases h.1.2 with ⟨hv, h0⟩ | ⟨g, cap, cur, hv, hB, hg, hcap, _, hsz, ht⟩
  · omega
  · have ha : a = some ⟨g, 0, none⟩ := by injection hv
    refine ⟨_, ha, Nat.le_trans hS hB, (Array.getElem?_eq_some_iff.1 hg).1, fun j v hj => ?_, (h.2 _ (List.getElem_mem hi)).1, (h.2 _ (List.getElem_mem hi)).2⟩
    have hj25 : j < 25 := by
      have := (List.getElem?_eq_some_iff.1 hj).1
      simpa [M.cells] using this
    have hr : (rowC l)[i * 25 + j]? = some v := by rw [rowC_at l i j hi hj25]; exact hj
    have := World.ownsRow.cells h.1 (g := g) (by rw [ha]; rfl) _ _ hr
    rw [add_at, Nat.zero_add] at this
    rw [add_at, add_at, Nat.zero_add]
    exact this
theorem rowC_app (a b : List M) : rowC (a ++ b) = rowC a ++ rowC b := by simp [rowC]
theorem rowC_one {l : List M} : ∀ u ∈ rowC l, u.oneCell' = true := by
  intro u hu
  obtain ⟨m, _, h⟩ := List.mem_flatMap.1 hu
  have := oneM m
  rw [Array.all_eq_true_iff_forall_mem] at this
  exact this u (by simpa using h)
theorem add_add (p : Addr) (x y : Nat) : (p.add x).add y = p.add (x + y) := by
  by_cases h1 : x = 0
  · subst h1; rw [Nat.zero_add]; rfl
  by_cases h2 : y = 0
  · subst h2; rfl
  unfold Addr.add
  rw [if_neg h2, if_neg h1, if_neg (by omega)]
  simp [Nat.add_assoc]
theorem own_cells {B : Nat} {w : World} {p : Addr} {r : List M} (h : MOwn B w (some p) r) : ∀ j u, (rowC r)[j]? = some u → w.cell? (p.add j) = some u := by
  intro j u hj
  have hlt : j < r.length * 25 := by rw [← rowC_len]; exact (List.getElem?_eq_some_iff.1 hj).1
  have hi : j / 25 < r.length := by omega
  have hm : j % 25 < 25 := by omega
  obtain ⟨q, hq, _, _, hc, _⟩ := h (j / 25) hi
  obtain rfl : p = q := Option.some.inj hq
  have he : (rowC r)[j / 25 * 25 + j % 25]? = some u := by rw [show j / 25 * 25 + j % 25 = j by omega]; exact hj
  rw [rowC_at r _ _ hi hm] at he
  have := hc _ _ he
  rwa [add_add, show j / 25 * 25 + j % 25 = j by omega] at this
theorem run_none {P : Program} {w : World} (base : Nat) (t ty e : TypeId) (i : TypeInfo) (size c : Nat) (ht : P.underlying t = some (.slice e)) (hi : P.info? e = some i) (v : Value) (n : Nat) (xs : List Value) (hown : w.ownsRow base e size v n xs) :
    (Builtin.append_ #[t, t] ty #[v, .slice none 0 c]).run P w = .ok v w := by
  rcases hown.2 with ⟨rfl, rfl⟩ | ⟨g, cap, cur, rfl, _, _, hnc, _⟩
  · simp [Builtin.append_, run_underlying ht, sizeOf, typeInfo, hi, Builtin.lenOf, Builtin.firstCells]
  · simp [Builtin.append_, run_underlying ht, sizeOf, typeInfo, hi, Builtin.lenOf, Builtin.firstCells, hnc, storeCells]
/-- append(v, x...), x a list of the call's own. -/
theorem wp_list {o : Oper} {A : Act} {w : World} {Q : Exit → Act → World → Prop} {K : Act → World → Prop} (s x : Operand)
    (ho : o.op = .call { callee := .builtin .append, args := #[s, x], argTypes := #[39, 39] }) (B S : Nat) (v : Value) (l r : List M) (a : Option Addr) (c : Nat)
    (hs : A.eval s = v) (hown : LM B S w v l) (hx : A.eval x = .slice a r.length c) (hr : MOwn S w a r)
    (hl : l.length + r.length ≤ 100000) (hB : B ≤ w.heap.size)
    (h : ∀ v' w', LM B S w' v' (l ++ r) → Below B w w' → w.grownBy w' v.ownBlock → K (A.put o.dst v') w') : Oper.wp Tryz.prog o A w K Q := by
  obtain ⟨i0, hi, hz, hsz, hby⟩ := infoA
  cases a with
  | none =>
    have hr0 : r = [] := by
      cases r with
      | nil => rfl
      | cons m r =>
        obtain ⟨q, hq, _⟩ := hr 0 (by simp)
        cases hq
    subst hr0
    have hrun := run_none (P := Tryz.prog) (w := w) B 39 o.type 29 i0 25 c Tryz.underlying39 hi v l.length (rowC l) hown.1
    unfold Oper.wp
    simp [execOp, ho, resolve, invoke, builtin, hs, hx, hrun, Result.andThen]
    exact h v w (by rw [List.append_nil]; exact hown) (Below.refl B w) ⟨rfl, rfl, rfl, Nat.le_refl _, fun _ _ _ => rfl⟩
  | some p =>
    refine wp_append_own w s x 39 ho B 29 i0 (.agg M.zero.cells) 25 i0.bytes Tryz.underlying39 hi hz hsz rfl rfl (by decide) v l.length (rowC l) hs hown.1 p r.length c (rowC r) hx (rowC_len r) (own_cells hr) rowC_one (by unfold maxLen; omega) ?_ hB ?_
    · have : (l.length + r.length) * i0.bytes ≤ 100000 * 4096 := Nat.mul_le_mul (by omega) hby
      omega
    · intro v' w' h2 h3 _
      refine h v' w' ⟨?_, fun m hm => ?_⟩ ((Below.refl B w).grown h3 hB (fun k hk => (World.ownsRow.lt hown.1 k hk).1)) h3
      · unfold Ap.Lst
        rw [rowC_app, List.length_append]
        exact h2
      · rcases List.mem_append.1 hm with k | k
        · exact ⟨(hown.2 m k).1, World.ownsRow.kept (hown.2 m k).2 h3 (own_ne (hown.2 m k).2 hown.1 (by decide))⟩
        · obtain ⟨i, hi, rfl⟩ := List.getElem_of_mem k
          obtain ⟨_, _, _, _, _, h5, h6⟩ := hr i hi
          exact ⟨h5, World.ownsRow.kept h6 h3 (own_ne h6 hown.1 (by decide))⟩
theorem app_list {ops : Array Oper} {rest : List Oper} {o : Oper} {A : Act} {w : World} {Q : Exit → Act → World → Prop} (hgd : o.guard = none) (s x : Operand)
    (ho : o.op = .call { callee := .builtin .append, args := #[s, x], argTypes := #[39, 39] }) (B S : Nat) (v : Value) (l r : List M) (a : Option Addr) (c : Nat)
    (hs : A.eval s = v) (hown : LM B S w v l) (hx : A.eval x = .slice a r.length c) (hr : MOwn S w a r)
    (hl : l.length + r.length ≤ 100000) (hB : B ≤ w.heap.size)
    (h : ∀ v' w', LM B S w' v' (l ++ r) → Below B w w' → w.grownBy w' v.ownBlock → wpList Tryz.prog ops Q rest (A.put o.dst v') w') : wpList Tryz.prog ops Q (o :: rest) A w :=
  wpList_plain hgd fun K hK => wp_list s x ho B S v l r a c hs hown hx hr hl hB fun v' w' h1 h2 h3 => hK _ _ (h v' w' h1 h2 h3)
end Go.Proofs.YtfegdblaohhdoaaGreatDoor.Lm
namespace Go.Proofs.YtfegdblaohhdoaaGreatDoor.J4
open Go.ChangeShapes Go.WideShapes Go.ChangeAt Go.RowKit
open Go.Proofs.YtfegdblaohhdoaaGreatDoor.Ms
open Go.Proofs.YtfegdblaohhdoaaGreatDoor.Box
open Go.Proofs.YtfegdblaohhdoaaGreatDoor.Nu
open Go.Proofs.YtfegdblaohhdoaaGreatDoor.J1
open Go.Proofs.YtfegdblaohhdoaaGreatDoor.J2
open Go.Proofs.YtfegdblaohhdoaaGreatDoor.An
open Go.Proofs.YtfegdblaohhdoaaGreatDoor.Tc
open Go.Proofs.YtfegdblaohhdoaaGreatDoor.F1 (bt bt_nn bt_lt num_two)
open Go.Proofs.YtfegdblaohhdoaaGreatDoor.Cur (numL)
open Go.Proofs.YtfegdblaohhdoaaGreatDoor.Bk (Bk Sh loadVarK wpList_builtK wpList_loadK wpList_storeK run_loadK alloc_size results_pair)
open Go.Proofs.YtfegdblaohhdoaaGreatDoor.Hs
set_option linter.unusedVariables false
set_option maxRecDepth 100000
set_option maxRecDepth 100000
theorem shU : Sh Tryz.prog 111 10 := ⟨_, Tryz.underlying111, by kernel_rfl⟩
theorem oneU (x : Up) : (x.cells.all fun x => x.oneCell') = true := by simp [Up.cells, Value.oneCell']
theorem wpList_loadU {ops : Array Oper} {rest : List Oper} {o : Oper} {a : Act} {w : World} {Q : Exit → Act → World → Prop} (hgd : o.guard = none) (x : Operand) (ho : o.op = .load 111 x) {b : Nat} (hx : a.eval x = .pointer (some ⟨b, 0, none⟩)) {m : Up} (hb : Bk 111 w b m.cells)
    (h : wpList Tryz.prog ops Q rest (a.put o.dst (.agg m.cells)) w) : wpList Tryz.prog ops Q (o :: rest) a w := wpList_loadK shU hgd x ho hx hb rfl h
theorem wpList_storeU {ops : Array Oper} {rest : List Oper} {o : Oper} {a : Act} {w : World} {Q : Exit → Act → World → Prop} (hgd : o.guard = none) (x y : Operand) (ho : o.op = .store 111 x y) {b : Nat} (hx : a.eval x = .pointer (some ⟨b, 0, none⟩)) {m m' : Up} (hy : a.eval y = .agg m'.cells) (hb : Bk 111 w b m.cells)
    (h : wpList Tryz.prog ops Q rest (a.put o.dst undef) (w.setRow b m'.cells)) : wpList Tryz.prog ops Q (o :: rest) a w := wpList_storeK shU hgd x y ho hx hy hb rfl rfl (oneU m') h
end Go.Proofs.YtfegdblaohhdoaaGreatDoor.J4
namespace Go.Proofs.YtfegdblaohhdoaaGreatDoor.S5
open Go.ChangeShapes Go.WideShapes Go.ChangeAt Go.RowKit
open Go.Proofs.YtfegdblaohhdoaaGreatDoor.Ms
open Go.Proofs.YtfegdblaohhdoaaGreatDoor.Cnt
open Go.Proofs.YtfegdblaohhdoaaGreatDoor.S1
open Go.Proofs.YtfegdblaohhdoaaGreatDoor.S2
open Go.Proofs.YtfegdblaohhdoaaGreatDoor.F1 (enc1 encT outT placed placed_len okT size_of len_le)
open Go.Proofs.YtfegdblaohhdoaaGreatDoor.F4 (AnsT)
open Go.Proofs.YtfegdblaohhdoaaGreatDoor.Tl (TRow cellsT indexT add_two)
open Go.Proofs.YtfegdblaohhdoaaGreatDoor.Sx (cellsS Lst cells_new)
open Go.Proofs.YtfegdblaohhdoaaGreatDoor.Bk (Bk Sh wpList_builtK)
set_option linter.unusedVariables false
set_option maxRecDepth 100000
set_option maxRecDepth 100000

/-- The first k of TLVs with places, without them. -/
def els (l : List F1.T) (k : Nat) : List El := (l.take k).map Prod.snd
theorem els_zero (l : List F1.T) : els l 0 = [] := by unfold els; simp
theorem els_snoc (l : List F1.T) (k : Nat) (h : k < l.length) : els l (k + 1) = els l k ++ [l[k].2] := by
  unfold els
  rw [List.take_succ_eq_append_getElem h, List.map_append]
  rfl
theorem els_all (l : List F1.T) : els l l.length = l.map Prod.snd := by unfold els; rw [List.take_length]
theorem els_len (l : List F1.T) (k : Nat) : (els l k).length ≤ k := by unfold els; rw [List.length_map, List.length_take]; omega
theorem lst_mono {B B' : Nat} {w : World} {v : Value} {l : List El} (h : Lst B w v l) (hB : B' ≤ B) : Lst B' w v l := by
  refine ⟨h.1, ?_⟩
  rcases h.2 with h | ⟨k, cap, cur, a, b, c, d⟩
  · exact .inl h
  · exact .inr ⟨k, cap, cur, a, Nat.le_trans hB b, c, d⟩
theorem bool_val {a b : Bool} (h : a = b) : Value.bool a = Value.bool b := by rw [h]

/-- The answer of Get: Subs (the list is the call's own), whether none must be known, an error. -/
def AnsS (p : List El × Bool × Int) (w : World) (e : Ending) (w' : World) : Prop :=
  ∃ a c, e = .returned (.tuple #[.slice a p.1.length c, .bool p.2.1, .int .i64 p.2.2]) ∧ Lst w.heap.size w' (.slice a p.1.length c) p.1 ∧ Below w.heap.size w w'
theorem AnsS.no {p : List El × Bool × Int} {w w' : World} {d : Int} (h : p = ([], false, d)) (hb : Below w.heap.size w w') : AnsS p w (.returned (.tuple #[.slice none 0 0, .bool false, .int .i64 d])) w' := by
  subst h
  exact ⟨none, 0, rfl, Lst.nil _ _, hb⟩
theorem AnsS.yes {p : List El × Bool × Int} {w w' : World} {a : Option Addr} {c n : Nat} {l : List El} {k : Bool} (h : p = (l, k, 0)) (hn : l.length = n) (hl : Lst w.heap.size w' (.slice a n c) l) (hb : Below w.heap.size w w') : AnsS p w (.returned (.tuple #[.slice a n c, .bool k, .int .i64 0])) w' := by
  subst h hn
  exact ⟨a, c, rfl, hl, hb⟩
end Go.Proofs.YtfegdblaohhdoaaGreatDoor.S5
namespace Go.Proofs.YtfegdblaohhdoaaGreatDoor.J6
open Go.ChangeShapes Go.WideShapes Go.ChangeAt Go.RowKit
open Go.Proofs.YtfegdblaohhdoaaGreatDoor.Ms
open Go.Proofs.YtfegdblaohhdoaaGreatDoor.Box
open Go.Proofs.YtfegdblaohhdoaaGreatDoor.S1
open Go.Proofs.YtfegdblaohhdoaaGreatDoor.J1
open Go.Proofs.YtfegdblaohhdoaaGreatDoor.J2
open Go.Proofs.YtfegdblaohhdoaaGreatDoor.J4
open Go.Proofs.YtfegdblaohhdoaaGreatDoor.An
open Go.Proofs.YtfegdblaohhdoaaGreatDoor.Tc
open Go.Proofs.YtfegdblaohhdoaaGreatDoor.F1 (bt bt_nn bt_lt)
open Go.Proofs.YtfegdblaohhdoaaGreatDoor.Tl (cellsT)
open Go.Proofs.YtfegdblaohhdoaaGreatDoor.Bk (Bk loadVarK wpList_builtK alloc_size)
open Go.Proofs.YtfegdblaohhdoaaGreatDoor.Hs
set_option linter.unusedVariables false
set_option maxRecDepth 100000
set_option maxRecDepth 100000
theorem lst_cell {B : Nat} {w : World} {v u : Value} {l : List El} {p : Addr} (h : Sx.Lst B w v l) (hg : p.block < B) : Sx.Lst B (w.setCell p u) v l := by
  refine ⟨h.1, ?_⟩
  rcases h.2 with h | ⟨k, cap, cur, a, b, c, d⟩
  · exact .inl h
  · exact .inr ⟨k, cap, cur, a, b, (heap_setCell_other w p k u (by omega)).trans c, d⟩
/-- What Take answers: an Update (its Subs are the call's own), whether it is one, an error. -/
def AnsU (p : Up × Bool × Int) (w : World) (e : Ending) (w' : World) : Prop :=
  ∃ sa sc, e = .returned (.tuple #[.agg (Up.cells { p.1 with sa := sa, sc := sc }), .bool p.2.1, .int .i64 p.2.2]) ∧
    Sx.Lst w.heap.size w' (.slice sa p.1.sl.length sc) p.1.sl ∧ Below w.heap.size w w'
theorem AnsU.no {p : Up × Bool × Int} {w w' : World} {d : Int} (h : p = (Up.zero, false, d)) (hb : Below w.heap.size w w') : AnsU p w (.returned (.tuple #[.agg Up.zero.cells, .bool false, .int .i64 d])) w' := by
  subst h
  exact ⟨none, 0, rfl, Sx.Lst.nil _ _, hb⟩
theorem AnsU.yes {p : Up × Bool × Int} {w w' : World} {r : Up} {a : Option Addr} {l : List El} {c B : Nat} (h : p = ({ r with sl := l }, true, 0)) (hl : Sx.Lst B w' (.slice a l.length c) l) (hB : w.heap.size ≤ B) (hb : Below w.heap.size w w') :
    AnsU p w (.returned (.tuple #[.agg (Up.cells { r with sa := a, sl := l, sc := c }), .bool true, .int .i64 0])) w' := by
  subst h
  exact ⟨a, c, rfl, lst_mono hl hB, hb⟩
end Go.Proofs.YtfegdblaohhdoaaGreatDoor.J6
namespace Go.Proofs.YtfegdblaohhdoaaGreatDoor.K3
open Go.ChangeShapes Go.WideShapes Go.ChangeAt Go.RowKit
open Go.Proofs.YtfegdblaohhdoaaGreatDoor.Ms
open Go.Proofs.YtfegdblaohhdoaaGreatDoor.Box
open Go.Proofs.YtfegdblaohhdoaaGreatDoor.S1
open Go.Proofs.YtfegdblaohhdoaaGreatDoor.Lk (shA lgA link)
open Go.Proofs.YtfegdblaohhdoaaGreatDoor.Nu (text_eq ext_list)
open Go.Proofs.YtfegdblaohhdoaaGreatDoor.J1
open Go.Proofs.YtfegdblaohhdoaaGreatDoor.J2 (bool_eq int_eq str_eq nil_eq nil_em size_eq)
open Go.Proofs.YtfegdblaohhdoaaGreatDoor.J4 (shU wpList_loadU wpList_storeU)
open Go.Proofs.YtfegdblaohhdoaaGreatDoor.An
open Go.Proofs.YtfegdblaohhdoaaGreatDoor.Tc
open Go.Proofs.YtfegdblaohhdoaaGreatDoor.K1
open Go.Proofs.YtfegdblaohhdoaaGreatDoor.Kb
open Go.Proofs.YtfegdblaohhdoaaGreatDoor.K2
open Go.Proofs.YtfegdblaohhdoaaGreatDoor.Bits (keepL keepL_length keepL_all keepL_keep)
open Go.Proofs.YtfegdblaohhdoaaGreatDoor.Pre (leastN cutL fillL fillL_length)
open Go.Proofs.YtfegdblaohhdoaaGreatDoor.Bk (Bk Sh alloc_size wpList_loadK wpList_storeK run_loadK loadVarK)
open Go.Proofs.YtfegdblaohhdoaaGreatDoor.Hs
open Go.Proofs.YtfegdblaohhdoaaGreatDoor.Or (st_yes)
set_option linter.unusedVariables false
set_option maxRecDepth 100000
set_option maxRecDepth 100000
def lgC (ae : Int) (a : ByteArray) : ByteArray := if ae = 3 then lgA a else a
section
variable {w W w' : World} {b g : Nat} {c : Kx} {v : Value} {u : Up}
end
end Go.Proofs.YtfegdblaohhdoaaGreatDoor.K3
namespace Go.Proofs.YtfegdblaohhdoaaGreatDoor.K4
open Go.ChangeShapes Go.WideShapes Go.ChangeAt Go.RowKit
open Go.Proofs.YtfegdblaohhdoaaGreatDoor.Ms
open Go.Proofs.YtfegdblaohhdoaaGreatDoor.Box
open Go.Proofs.YtfegdblaohhdoaaGreatDoor.S1
open Go.Proofs.YtfegdblaohhdoaaGreatDoor.J1
open Go.Proofs.YtfegdblaohhdoaaGreatDoor.J2 (nil_eq nil_em size_eq)
open Go.Proofs.YtfegdblaohhdoaaGreatDoor.J4 (shU wpList_loadU wpList_storeU)
open Go.Proofs.YtfegdblaohhdoaaGreatDoor.An
open Go.Proofs.YtfegdblaohhdoaaGreatDoor.Tc
open Go.Proofs.YtfegdblaohhdoaaGreatDoor.K1
open Go.Proofs.YtfegdblaohhdoaaGreatDoor.Kb
open Go.Proofs.YtfegdblaohhdoaaGreatDoor.K2
open Go.Proofs.YtfegdblaohhdoaaGreatDoor.K3
open Go.Proofs.YtfegdblaohhdoaaGreatDoor.Bk (Bk Sh alloc_size wpList_loadK wpList_storeK run_loadK loadVarK wpList_builtK)
open Go.Proofs.YtfegdblaohhdoaaGreatDoor.Or (st_yes)
set_option linter.unusedVariables false
set_option maxRecDepth 100000
set_option maxRecDepth 100000
/-- An element of a block's array of texts: its address. -/
theorem indexAt4 (b k : Nat) (hk : k < 4) (W : World) : (Instr.indexAt 22 (.pointer (some ⟨b, 0, none⟩)) (.int .i64 (k : Int))).run Tryz.prog W = .ok (.pointer (some ⟨b, k, none⟩)) W := by
  rcases (show k = 0 ∨ k = 1 ∨ k = 2 ∨ k = 3 by omega) with rfl | rfl | rfl | rfl <;> kernel_rfl
theorem indexAt2 (b k : Nat) (hk : k < 2) (W : World) : (Instr.indexAt 23 (.pointer (some ⟨b, 4, none⟩)) (.int .i64 (k : Int))).run Tryz.prog W = .ok (.pointer (some ⟨b, 4 + k, none⟩)) W := by
  rcases (show k = 0 ∨ k = 1 by omega) with rfl | rfl <;> kernel_rfl
theorem ex_indexAt {P : Program} {o : Oper} {ρ : Operand → Value} {T : TypeId} {x y : Operand} {vx vy r : Value} {w : World} (ho : o.op = .indexAddr T x y) (hx : ρ x = vx) (hy : ρ y = vy) (h : (Instr.indexAt T vx vy).run P w = .ok r w) :
    (execOp ρ o).run P w = .ok (.value r) w := by
  unfold execOp
  simp only [ho, hx, hy, Sem.run_bind, h, Result.andThen_ok, Sem.run_pure]
end Go.Proofs.YtfegdblaohhdoaaGreatDoor.K4
namespace Go.Proofs.YtfegdblaohhdoaaGreatDoor.K5
open Go.ChangeShapes Go.WideShapes Go.ChangeAt Go.RowKit
open Go.Proofs.YtfegdblaohhdoaaGreatDoor.Ms
open Go.Proofs.YtfegdblaohhdoaaGreatDoor.Box
open Go.Proofs.YtfegdblaohhdoaaGreatDoor.S1
open Go.Proofs.YtfegdblaohhdoaaGreatDoor.J1
open Go.Proofs.YtfegdblaohhdoaaGreatDoor.J2 (nil_eq nil_em size_eq)
open Go.Proofs.YtfegdblaohhdoaaGreatDoor.J4 (shU wpList_loadU wpList_storeU)
open Go.Proofs.YtfegdblaohhdoaaGreatDoor.J6 (AnsU lst_cell)
open Go.Proofs.YtfegdblaohhdoaaGreatDoor.An
open Go.Proofs.YtfegdblaohhdoaaGreatDoor.Tc
open Go.Proofs.YtfegdblaohhdoaaGreatDoor.K1
open Go.Proofs.YtfegdblaohhdoaaGreatDoor.Kb
open Go.Proofs.YtfegdblaohhdoaaGreatDoor.K2
open Go.Proofs.YtfegdblaohhdoaaGreatDoor.K3
open Go.Proofs.YtfegdblaohhdoaaGreatDoor.K4
open Go.Proofs.YtfegdblaohhdoaaGreatDoor.F1 (bt bt_nn bt_lt)
open Go.Proofs.YtfegdblaohhdoaaGreatDoor.F2 (idx sl_m sl_l)
open Go.Proofs.YtfegdblaohhdoaaGreatDoor.Hx (conv8)
open Go.Proofs.YtfegdblaohhdoaaGreatDoor.Tl (cellsT)
open Go.Proofs.YtfegdblaohhdoaaGreatDoor.Bk (Bk Sh alloc_size wpList_loadK wpList_storeK run_loadK results_pair loadVarK wpList_builtK)
open Go.Proofs.YtfegdblaohhdoaaGreatDoor.Hs
open Go.Proofs.YtfegdblaohhdoaaGreatDoor.Or (st_yes)
set_option linter.unusedVariables false
set_option maxRecDepth 100000
set_option maxRecDepth 100000
theorem cnt_with {d : ByteArray} {u : Up} (g : Cnt d u) (a : Option Addr) (k : Nat) : Cnt d { u with sa := a, sc := k } := ⟨g.ae0, g.ae3, g.len, g.om0, g.omle, g.size, g.subs, g.iv, g.seq, g.metric, g.fl0, g.fl1⟩
end Go.Proofs.YtfegdblaohhdoaaGreatDoor.K5
namespace Go.Proofs.YtfegdblaohhdoaaGreatDoor.K6
open Go.ChangeShapes Go.WideShapes Go.ChangeAt Go.RowKit
open Go.Proofs.YtfegdblaohhdoaaGreatDoor.Ms
open Go.Proofs.YtfegdblaohhdoaaGreatDoor.Box
open Go.Proofs.YtfegdblaohhdoaaGreatDoor.An
open Go.Proofs.YtfegdblaohhdoaaGreatDoor.Tc
open Go.Proofs.YtfegdblaohhdoaaGreatDoor.K1
open Go.Proofs.YtfegdblaohhdoaaGreatDoor.Kb
open Go.Proofs.YtfegdblaohhdoaaGreatDoor.K2
open Go.Proofs.YtfegdblaohhdoaaGreatDoor.K3
open Go.Proofs.YtfegdblaohhdoaaGreatDoor.K4
open Go.Proofs.YtfegdblaohhdoaaGreatDoor.K5
open Go.Proofs.YtfegdblaohhdoaaGreatDoor.Tl (cellsT)
open Go.Proofs.YtfegdblaohhdoaaGreatDoor.Bk (Bk Sh alloc_size wpList_loadK wpList_storeK run_loadK results_pair loadVarK wpList_builtK)
open Go.Proofs.YtfegdblaohhdoaaGreatDoor.Hs
open Go.Proofs.YtfegdblaohhdoaaGreatDoor.Or (st_yes)
set_option linter.unusedVariables false
set_option maxRecDepth 100000
set_option maxRecDepth 100000
theorem infoX : (Tryz.prog.info? 25).map (·.size) = some 7 := by kernel_rfl
end Go.Proofs.YtfegdblaohhdoaaGreatDoor.K6
namespace Go.Proofs.YtfegdblaohhdoaaGreatDoor.Fq
open Go.ChangeShapes Go.WideShapes Go.ChangeAt Go.RowKit
open Go.Proofs.YtfegdblaohhdoaaGreatDoor.Ms
open Go.Proofs.YtfegdblaohhdoaaGreatDoor.Box
open Go.Proofs.YtfegdblaohhdoaaGreatDoor.An
open Go.Proofs.YtfegdblaohhdoaaGreatDoor.K1
open Go.Proofs.YtfegdblaohhdoaaGreatDoor.Kb
open Go.Proofs.YtfegdblaohhdoaaGreatDoor.I1
open Go.Proofs.YtfegdblaohhdoaaGreatDoor.Lm
open Go.Proofs.YtfegdblaohhdoaaGreatDoor.Tl (cellsT TRow)
open Go.Proofs.YtfegdblaohhdoaaGreatDoor.Bk (Bk alloc_size)
set_option linter.unusedVariables false
set_option maxRecDepth 100000
set_option maxRecDepth 100000
theorem PlL.app {a a' b b' : List M} (h : PlL a a') (k : PlL b b') : PlL (a ++ b) (a' ++ b') := by
  refine ⟨by rw [List.length_append, List.length_append, h.1, k.1], fun i hi hi' => ?_⟩
  by_cases hl : i < a.length
  · rw [List.getElem_append_left hl, List.getElem_append_left (by rw [← h.1]; exact hl)]
    exact h.2 i hl (by rw [← h.1]; exact hl)
  · rw [List.getElem_append_right (by omega), List.getElem_append_right (by have := h.1; omega)]
    have hk := k.2 (i - a.length) (by rw [List.length_append] at hi; omega) (by rw [List.length_append] at hi'; have := h.1; omega)
    simpa only [h.1] using hk
theorem ex_loadT {o : Oper} {ρ : Operand → Value} {x : Operand} {q : Addr} {u : F1.T} {w : World} (ho : o.op = .load 62 x) (hx : ρ x = .pointer (some q))
    (h : w.cell? q = some (.int .i64 u.2.2) ∧ w.cell? (q.add 1) = some (.int .i64 u.1) ∧ w.cell? (q.add 2) = some (.string u.2.1)) : (execOp ρ o).run Tryz.prog w = .ok (.value (.agg (cellsT u))) w := by
  have hl : (loadCells q 3).run Tryz.prog w = .ok (cellsT u) w := by
    have := run_loadCells_list (P := Tryz.prog) w q (cellsT u).toList (fun j v hv => by
      match j, hv with
      | 0, hv => exact h.1.trans hv
      | 1, hv => exact h.2.1.trans hv
      | 2, hv => exact h.2.2.trans hv
      | j + 3, hv => cases hv)
    rw [show (cellsT u).toList.length = 3 from rfl] at this
    rw [this]
  have hagg : (isAgg 62).run Tryz.prog w = .ok true w := by go_simp
  have hsz : (sizeOf 62).run Tryz.prog w = .ok 3 w := by go_simp
  unfold execOp
  simp only [ho, hx, Instr.loadAt, Instr.sureAddr, Sem.run_bind, Sem.run_pure, Result.andThen_ok, loadVar, hagg, if_true, hsz, hl]
theorem one_few {c : Kx} (hc : okC c = true) (t : Int) (d : ByteArray) : (one c t d).2.1.length ≤ 1 := by
  rcases (one_fine hc t d).told with h | ⟨m, h, _⟩ <;> rw [h] <;> simp
end Go.Proofs.YtfegdblaohhdoaaGreatDoor.Fq
namespace Go.Proofs.YtfegdblaohhdoaaGreatDoor.G6
open Go.ChangeShapes Go.WideShapes Go.ChangeAt Go.RowKit
open Go.Proofs.YtfegdblaohhdoaaGreatDoor.Ms
open Go.Proofs.YtfegdblaohhdoaaGreatDoor.Box
open Go.Proofs.YtfegdblaohhdoaaGreatDoor.S1
open Go.Proofs.YtfegdblaohhdoaaGreatDoor.S5 (AnsS)
open Go.Proofs.YtfegdblaohhdoaaGreatDoor.G1
open Go.Proofs.YtfegdblaohhdoaaGreatDoor.An
open Go.Proofs.YtfegdblaohhdoaaGreatDoor.Tc
open Go.Proofs.YtfegdblaohhdoaaGreatDoor.Tl (cellsT)
open Go.Proofs.YtfegdblaohhdoaaGreatDoor.Bk (Bk wpList_builtK alloc_size)
open Go.Proofs.YtfegdblaohhdoaaGreatDoor.Hs
set_option linter.unusedVariables false
set_option maxRecDepth 100000
set_option maxRecDepth 100000
theorem lst_cell {B : Nat} {w : World} {v u : Value} {l : List El} {p : Addr} (h : Sx.Lst B w v l) (hg : p.block < B) : Sx.Lst B (w.setCell p u) v l := by
  refine ⟨h.1, ?_⟩
  rcases h.2 with h | ⟨k, cap, cur, a, b, c, d⟩
  · exact .inl h
  · exact .inr ⟨k, cap, cur, a, b, (heap_setCell_other w p k u (by omega)).trans c, d⟩
end Go.Proofs.YtfegdblaohhdoaaGreatDoor.G6
namespace Go.Proofs.YtfegdblaohhdoaaGreatDoor.S6
open Go.ChangeShapes Go.WideShapes Go.ChangeAt Go.RowKit
open Go.Proofs.YtfegdblaohhdoaaGreatDoor.Ms
open Go.Proofs.YtfegdblaohhdoaaGreatDoor.Cnt
open Go.Proofs.YtfegdblaohhdoaaGreatDoor.S1
open Go.Proofs.YtfegdblaohhdoaaGreatDoor.S5
open Go.Proofs.YtfegdblaohhdoaaGreatDoor.Hs
open Go.Proofs.YtfegdblaohhdoaaGreatDoor.Hx (ex_built)
open Go.Proofs.YtfegdblaohhdoaaGreatDoor.F1 (enc1 encT outT placed placed_len okT size_of len_le)
open Go.Proofs.YtfegdblaohhdoaaGreatDoor.F5 (rsplit_own)
open Go.Proofs.YtfegdblaohhdoaaGreatDoor.Tl (TRow cellsT indexT add_two)
open Go.Proofs.YtfegdblaohhdoaaGreatDoor.Sx (cellsS Lst cells_new H.bsS H.appS)
set_option linter.unusedVariables false
set_option maxRecDepth 100000
set_option maxRecDepth 100000

/-- What the loads read. -/
def Sl (p : Addr) (k : Nat) (d : ByteArray) (n : Int) (W : World) : Prop :=
  W.cell? (p.add (k * 3)) = some (.int .i64 n) ∧ W.cell? ⟨(p.add (k * 3)).block, (p.add (k * 3)).off + 2, none⟩ = some (.string d)
theorem Sl.far {B : Nat} {p : Addr} {k : Nat} {d : ByteArray} {n : Int} {W W' : World} (h : Sl p k d n W) (hb : Below B W W') (hp : p.block < B) : Sl p k d n W' :=
  ⟨by rw [hb.cell (by rw [add_block]; exact hp)]; exact h.1, by rw [hb.cell (by show (p.add (k * 3)).block < _; rw [add_block]; exact hp)]; exact h.2⟩

set_option maxHeartbeats 6400000 in
theorem rget_own (s : ByteArray) (w : World) (hs : s.size ≤ 100000) : Calls Tryz.prog 75 #[.string s] w (AnsS (outS s) w) := by
  have P1 := Lib.hid (rsplit_own s 0 w hs (by omega) (by omega))
  rcases outS_cases s with ⟨l, ho, he, e, hk⟩ | ⟨p, e, hk⟩
  rotate_left
  · have HY := Lib.hid hk
    rw [e] at P1
    clear e hk hs
    go_enter Tryz.func75, Tryz.ntmps75
    go_wp2_with fail
    refine P1.out.mono ?_
    rintro r w1 ⟨a1, c1, rfl, h1, hb⟩
    have HB := Lib.hid hb
    clear h1 hb P1
    dsimp only [List.length_nil]
    go_wp2
    go_ret3
    exact AnsS.no HY.out HB.out
  have HZ := size_of he
  have hls := len_le l
  have HQ := Lib.hid (show bytesN (keep l) ≤ 100000 by have := keep_size l; omega)
  have HK := Lib.hid (show (keep l).length ≤ 100000 by have := keep_len l; omega)
  have HP := Lib.hid (show (placed 0 l).length ≤ 100000 by rw [placed_len]; omega)
  have HD := Lib.hid (placed_snd l 0)
  have HE := Lib.hid hk
  rw [e] at P1
  clear e hk hs ho he HZ hls
  go_enter Tryz.func75, Tryz.ntmps75
  go_wp2_with fail
  refine P1.out.mono ?_
  rintro r w1 ⟨a, c, rfl, h1, hb⟩
  have HL := Lib.hid h1.row
  have HB1 := Lib.hid hb
  clear h1 hb P1
  dsimp only
  generalize placed 0 l = lt at *
  go_wp2
  go_loopw [8, 9, 10] (fun v kn i wr => ∃ k : Nat, k ≤ lt.length ∧ i = .int .i64 k ∧ kn = .bool (knownB (els lt k)) ∧ Hid (Lst w1.heap.size wr v (keep (els lt k))) ∧ Hid (Below w1.heap.size w1 wr)) (fun _ _ i _ => lt.length - (intOf i).toNat)
  case atStart => exact ⟨0, Nat.zero_le _, rfl, by rw [els_zero]; rfl, Lib.hid (by rw [els_zero]; exact Lst.nil _ _), Lib.hid (Below.refl _ _)⟩
  case round =>
    obtain ⟨k, hk, rfl, rfl, HV, HB⟩ := hrel
    by_cases hlt : k < lt.length
    · obtain ⟨p, rfl, hp, -, -, -⟩ := HL.out k hlt
      have HH := Lib.hid hp
      clear hp
      obtain ⟨p', hpp, hp, c0, c1, c2⟩ := (HL.out.below HB.out) k hlt
      cases hpp
      have ix := fun W => indexT p lt.length c k hlt W
      have HT := Lib.hid (els_snoc lt k hlt)
      have hk2 : (k : Int) ≤ 100000 := by have := HP.out; omega
      have HC : Hid ((keep (els lt k)).length ≤ 100000) := Lib.hid (by have := HP.out; have := keep_len (els lt k); have := els_len lt k; omega)
      rw [add_two] at c2
      generalize lt[k] = u at *
      generalize els lt k = lk at *
      obtain ⟨at0, d, n⟩ := u
      simp only [] at c0 c1 c2 HT
      clear c1
      by_cases h1 : n < 2
      · have hk0 : keepB (d, n) = false := by unfold keepB; simp; omega
        have e1 := keep_no hk0 lk
        have e2 : knownB (lk ++ [(d, n)]) = knownB lk := by rw [known_snoc]; simp; omega
        rw [← HT.out] at e1 e2
        rw [← e1] at HV
        have E2 := Lib.hid e2
        clear e1 e2 hk0 c2
        have h1' : ¬ 2 ≤ n := by omega
        have h2' : n ≤ 127 := by omega
        generalize knownB lk = b0 at *
        cases b0
        · go_wp2
          go_roundw
          case rel => exact ⟨k + 1, hlt, by go_num, bool_val E2.out.symm, HV, HB⟩
          case measure => simp [intOf]; omega
        · go_wp2
          go_roundw
          case rel => exact ⟨k + 1, hlt, by go_num, bool_val E2.out.symm, HV, HB⟩
          case measure => simp [intOf]; omega
      have h1' : 2 ≤ n := by omega
      by_cases h2 : 127 < n
      · have hk0 : keepB (d, n) = false := by unfold keepB; simp; omega
        have e1 := keep_no hk0 lk
        have e2 : knownB (lk ++ [(d, n)]) = false := by rw [known_snoc]; simp; omega
        rw [← HT.out] at e1 e2
        rw [← e1] at HV
        have E2 := Lib.hid e2
        clear e1 e2 hk0 c2
        have h2' : ¬ n ≤ 127 := by omega
        generalize knownB lk = b0 at *
        cases b0
        · go_wp2
          go_roundw
          case rel => exact ⟨k + 1, hlt, by go_num, bool_val E2.out.symm, HV, HB⟩
          case measure => simp [intOf]; omega
        · go_wp2
          go_roundw
          case rel => exact ⟨k + 1, hlt, by go_num, bool_val E2.out.symm, HV, HB⟩
          case measure => simp [intOf]; omega
      have h2' : n ≤ 127 := by omega
      have hk0 : keepB (d, n) = true := by unfold keepB; simp; omega
      have e1 := keep_yes hk0 lk
      have e2 : knownB (lk ++ [(d, n)]) = knownB lk := by rw [known_snoc]; simp; omega
      rw [← HT.out] at e1 e2
      have E1 := Lib.hid e1
      have E2 := Lib.hid e2
      have HS0 : Hid (Sl p k d n wr.drew) := Lib.hid ⟨c0, c2⟩
      have hkl : (k : Int) < (lt.length : Int) := by omega
      clear e1 e2 hk0 hp
      generalize keep lk = kl at *
      generalize knownB lk = b0 at *
      go_upto_region 10 with fail
      refine wp_region_held_drew (S := Sl p k d n) (by kernel_rfl) HS0.out (fun hS => ?_)
      have HV := Lib.hid (show Lst w1.heap.size wr.drew u8 kl from HV.out)
      have HB := Lib.hid HB.out.drew
      clear HS0 c0 c2
      generalize wr.drew = V at *
      have HLA := Lib.hid (HV.out.below (balloc (Below.refl _ V) (.cells (cellsS (d, n)) 46)))
      have HBA := Lib.hid (HB.out.alloc HB.out.size (.cells (cellsS (d, n)) 46))
      refine H.tk (i := 0) (v := ?v0) ?h0 hS ?_
      case h0 => (intro w hw; go_simp; first | done | (with_reducible rfl))
      try simp only [Act.put, List.setIfInBounds_toArray, List.set_cons_zero, List.set_cons_succ]
      refine H.tk (i := 1) (v := ?v1) ?h1 hS ?_
      case h1 => (intro w hw; go_simp; first | done | (with_reducible rfl))
      try simp only [Act.put, List.setIfInBounds_toArray, List.set_cons_zero, List.set_cons_succ]
      refine H.tk (i := 2) (v := ?v2) ?h2 hS ?_
      case h2 => (intro w hw; go_simp; first | done | (with_reducible rfl))
      try simp only [Act.put, List.setIfInBounds_toArray, List.set_cons_zero, List.set_cons_succ]
      refine H.tk (i := 3) (v := ?v3) ?h3 hS ?_
      case h3 => (intro w hw; go_simp; first | done | (with_reducible rfl))
      try simp only [Act.put, List.setIfInBounds_toArray, List.set_cons_zero, List.set_cons_succ]
      refine H.tk (i := 4) (v := ?v4) ?h4 hS ?_
      case h4 => (intro w hw; go_simp; first | done | (with_reducible rfl))
      try simp only [Act.put, List.setIfInBounds_toArray, List.set_cons_zero, List.set_cons_succ]
      refine H.tk (i := 5) (v := ?v5) ?h5 hS ?_
      case h5 => (intro w hw; obtain ⟨c0, c2⟩ := hw; go_simp; first | done | (with_reducible rfl))
      try simp only [Act.put, List.setIfInBounds_toArray, List.set_cons_zero, List.set_cons_succ]
      refine H.tk (i := 6) (v := ?v6) ?h6 hS ?_
      case h6 => (intro w hw; go_simp; first | done | (with_reducible rfl))
      try simp only [Act.put, List.setIfInBounds_toArray, List.set_cons_zero, List.set_cons_succ]
      refine H.tk (i := 7) (v := ?v7) ?h7 hS ?_
      case h7 => (intro w hw; go_simp; first | done | (with_reducible rfl))
      try simp only [Act.put, List.setIfInBounds_toArray, List.set_cons_zero, List.set_cons_succ]
      refine H.tk (i := 8) (v := ?v8) ?h8 hS ?_
      case h8 => (intro w hw; go_simp; first | done | (with_reducible rfl))
      try simp only [Act.put, List.setIfInBounds_toArray, List.set_cons_zero, List.set_cons_succ]
      refine H.tk (i := 9) (v := ?v9) ?h9 hS ?_
      case h9 => (intro w hw; go_simp; first | done | (with_reducible rfl))
      try simp only [Act.put, List.setIfInBounds_toArray, List.set_cons_zero, List.set_cons_succ]
      refine H.tk (i := 10) (v := ?v10) ?h10 hS ?_
      case h10 => (intro w hw; obtain ⟨c0, c2⟩ := hw; go_simp; first | done | (with_reducible rfl))
      try simp only [Act.put, List.setIfInBounds_toArray, List.set_cons_zero, List.set_cons_succ]
      refine H.tk (i := 11) (v := .agg (cellsS (d, n))) ?h11 hS ?_
      case h11 => exact fun w _ => ex_built rfl (by kernel_rfl)
      try simp only [Act.put, List.setIfInBounds_toArray, List.set_cons_zero, List.set_cons_succ]
      refine H.bsS (i := 12) (m := (d, n)) (by simp only [List.getElem?_toArray, List.getElem?_cons_succ, List.getElem?_cons_zero]; rfl) (by kernel_rfl) (by kernel_rfl) rfl _ rfl rfl (hS.far ((Below.refl w1.heap.size V).alloc HB.out.size (.cells (cellsS (d, n)) 46)) HH.out) ?_
      try simp only [Act.put, List.setIfInBounds_toArray, List.set_cons_zero, List.set_cons_succ]
      have hS := hS.far ((Below.refl w1.heap.size V).alloc HB.out.size (.cells (cellsS (d, n)) 46)) HH.out
      refine H.appS (i := 13) (by simp only [List.getElem?_toArray, List.getElem?_cons_succ, List.getElem?_cons_zero]; rfl) (by kernel_rfl) (by kernel_rfl) rfl (.tmp 40) (.tmp 52) rfl w1.heap.size _ kl (d, n) V.heap.size 1 rfl HLA.out rfl (cells_new (d, n) V) HC.out HBA.out.size (fun W' hg => hS.far ((Below.refl w1.heap.size _).grown hg HBA.out.size (fun k hk => (World.ownsRow.lt HLA.out k hk).1)) HH.out) ?_
      intro v' w' hl2 hg hb
      have hS := hS.far hb HH.out
      try simp only [Act.put, List.setIfInBounds_toArray, List.set_cons_zero, List.set_cons_succ]
      refine H.tk (i := 14) (v := ?v14) ?h14 hS ?_
      case h14 => (intro w hw; go_simp; first | done | (with_reducible rfl))
      try simp only [Act.put, List.setIfInBounds_toArray, List.set_cons_zero, List.set_cons_succ]
      refine wpAnyH_done (by kernel_rfl) ?_ _
      obtain ⟨c0, c2⟩ := hS
      have HV : Hid (Lst w1.heap.size w' v' (keep (els lt (k + 1)))) := Lib.hid (by rw [E1.out]; exact hl2)
      have HB := Lib.hid (HBA.out.trans hb)
      clear hl2 hb hg HLA HBA c2
      cases b0
      · go_wp2
        go_roundw
        case rel => exact ⟨k + 1, hlt, by go_num, bool_val E2.out.symm, HV, HB⟩
        case measure => simp [intOf]; omega
      · go_wp2
        go_roundw
        case rel => exact ⟨k + 1, hlt, by go_num, bool_val E2.out.symm, HV, HB⟩
        case measure => simp [intOf]; omega
    · obtain rfl : k = lt.length := by omega
      rw [els_all, HD.out] at *
      obtain ⟨a2, c2, rfl⟩ := HV.out.slice
      have P3 := Lib.hid (rbytes_any a2 c2 (keep l) wr HV.out.row (by have := HK.out; omega) (by have := HQ.out; omega))
      have HV := Lib.hid (lst_mono HV.out HB1.out.size)
      have HB := Lib.hid (HB1.out.trans (HB.out.mono HB1.out.size))
      have HE := HE.out
      rcases HE with ⟨hq, e⟩ | ⟨hq, e⟩
      · have HY := Lib.hid e
        have hq2 : ((bytesN (keep l) : Nat) : Int) ≤ 200 := by omega
        clear hq e
        generalize ((bytesN (keep l) : Nat) : Int) = n at *
        generalize hg : keep l = kl at *
        generalize hgk : knownB l = kn at *
        clear hg hgk
        go_wp2_with fail
        refine P3.out.mono ?_
        rintro r w3 ⟨rfl, hb⟩
        have HV := Lib.hid (HV.out.below hb)
        have HB := Lib.hid (bcall HB.out hb)
        clear hb P3
        go_wp2
        go_ret3
        exact AnsS.yes HY.out rfl HV.out HB.out
      · have HY := Lib.hid e
        have hq2 : 200 < ((bytesN (keep l) : Nat) : Int) := by omega
        clear hq e
        generalize ((bytesN (keep l) : Nat) : Int) = n at *
        generalize hg : keep l = kl at *
        clear hg
        go_wp2_with fail
        refine P3.out.mono ?_
        rintro r w3 ⟨rfl, hb⟩
        have HB := Lib.hid (bcall HB.out hb)
        clear hb P3 HV
        go_wp2
        go_ret3
        exact AnsS.no HY.out HB.out
end Go.Proofs.YtfegdblaohhdoaaGreatDoor.S6
