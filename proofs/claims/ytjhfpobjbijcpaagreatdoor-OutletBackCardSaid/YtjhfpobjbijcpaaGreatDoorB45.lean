/-
  The messages of a body's TLVs, and of a datagram: the document's answer. Conditions: the TLVs stand in the world; no more than 70,000; their data aren't long.
  The messages of a datagram: the document's answer. Condition: the bytes aren't many.
-/
import Derived.Test.YtjhfpobjbijcpaaGreatDoorB14
import Derived.Test.YtjhfpobjbijcpaaGreatDoorB19
import Derived.Test.YtjhfpobjbijcpaaGreatDoorB35
import Derived.Test.YtjhfpobjbijcpaaGreatDoorB43
import Derived.Test.YtjhfpobjbijcpaaGreatDoorB44
namespace Go.Proofs.YtjhfpobjbijcpaaGreatDoor.I4
open Go.ChangeShapes Go.WideShapes Go.ChangeAt Go.RowKit
open Go.Proofs.YtjhfpobjbijcpaaGreatDoor.Ms
open Go.Proofs.YtjhfpobjbijcpaaGreatDoor.Box
open Go.Proofs.YtjhfpobjbijcpaaGreatDoor.An
open Go.Proofs.YtjhfpobjbijcpaaGreatDoor.K1
open Go.Proofs.YtjhfpobjbijcpaaGreatDoor.Kb
open Go.Proofs.YtjhfpobjbijcpaaGreatDoor.I1
open Go.Proofs.YtjhfpobjbijcpaaGreatDoor.Lm
open Go.Proofs.YtjhfpobjbijcpaaGreatDoor.Fq
open Go.Proofs.YtjhfpobjbijcpaaGreatDoor.Tl (cellsT TRow indexT)
open Go.Proofs.YtjhfpobjbijcpaaGreatDoor.Or (st_yes)
open Go.Proofs.YtjhfpobjbijcpaaGreatDoor.Hs
open Go.Proofs.YtjhfpobjbijcpaaGreatDoor.Hy (H.one H.two wp_valW)
open Go.Proofs.YtjhfpobjbijcpaaGreatDoor.Hx (ex_built)
open Go.Proofs.YtjhfpobjbijcpaaGreatDoor.Bk (Bk wpList_builtK run_loadK loadVarK alloc_size)
open Go.Proofs.YtjhfpobjbijcpaaGreatDoor.F2 (results_head)
open Go.Proofs.YtjhfpobjbijcpaaGreatDoor.K6 (infoX)
set_option linter.unusedVariables false
set_option maxRecDepth 100000
set_option maxHeartbeats 51200000 in
set_option maxRecDepth 100000 in
theorem rfold_any (a : Option Addr) (l : List F1.T) (kc : Nat) (w : World) (hl : TRow w a l) (hn : l.length ≤ 70000) (hd : ∀ x ∈ l, x.2.1.size ≤ 100000) : Calls Tryz.prog 25 #[.slice a l.length kc] w (AnsF (outI l) w) := by
  have HL := Lib.hid hl
  have HD := Lib.hid hd
  have D := Lib.hid (Fo.start w)
  clear hl hd
  go_enter Tryz.func25, Tryz.ntmps25
  go_upto_region 3 with fail
  change Code.wp _ _ _ _ ((w.alloc (.cells Kx.zero.cells 44)).alloc (.cells Kx.zero.cells 44))
  generalize (w.alloc (.cells Kx.zero.cells 44)).alloc (.cells Kx.zero.cells 44) = V at *
  go_wp2
  go_loopw [6, 8] (fun v i wr => ∃ (k : Nat) (c : Kx) (o ls : List M), k ≤ l.length ∧ i = .int .i64 k ∧ Hid (okC c = true) ∧ Hid (outI l = foldI (l.drop k) c o) ∧ Hid (PlL ls o) ∧ Hid (ls.length ≤ k) ∧ Hid (LM (w.heap.size + 1 + 1) (w.heap.size + 1 + 1) wr v ls) ∧ Hid (Fo w c wr)) (fun _ i _ => l.length - (intOf i).toNat)
  case atStart => exact ⟨0, Kx.zero, [], [], Nat.zero_le _, rfl, Lib.hid (by decide), Lib.hid rfl, Lib.hid PlL.nil, Lib.hid (Nat.le_refl _), Lib.hid (LM.nil _ _ _), D⟩
  case round =>
    clear D
    obtain ⟨k, c, o, ls, hk, rfl, HC, HF, HP0, HK0, HM0, D⟩ := hrel
    by_cases hlt : k < l.length
    rotate_left
    · obtain rfl : k = l.length := by omega
      have HY := Lib.hid (fold_done HF.out)
      obtain ⟨va, vc, rfl⟩ := HM0.out.slice
      clear HF HL HD hlt hk
      go_upto_region 11 with fail
      have HLM := Lib.hid HM0.out
      have R0 := Lib.hid (show Bk 44 wr.drew w.heap.size Kx.zero.cells from D.out.r0)
      have HB := Lib.hid D.out.bel.drew
      refine wp_region_held_drew (S := fun X => Bk 44 X (w.heap.size + 1) c.cells) (by kernel_rfl) (D.out.c0) (fun hS => ?_)
      have HLM := Lib.hid (show LM (w.heap.size + 1 + 1) (w.heap.size + 1 + 1) wr.drew _ ls from HLM.out.below (Below.refl _ wr).drew)
      generalize wr.drew = Z0 at *
      refine H.tk (i := 0) (v := .slice va ls.length vc) ?h0x1t hS ?_
      case h0x1t => exact (fun w hw => by go_simp)
      try simp only [Act.put, List.setIfInBounds_toArray, List.set_cons_zero, List.set_cons_succ]
      refine H.tk (i := 1) (v := .agg c.cells) ?h1x2t hS ?_
      case h1x2t => exact (fun w hw => run_loadK shX (x := .tmp 7) rfl rfl hw rfl)
      try simp only [Act.put, List.setIfInBounds_toArray, List.set_cons_zero, List.set_cons_succ]
      refine H.tk (i := 2) (v := .slice va ls.length vc) ?h2x3t hS ?_
      case h2x3t => exact (fun w hw => by go_simp)
      try simp only [Act.put, List.setIfInBounds_toArray, List.set_cons_zero, List.set_cons_succ]
      refine H.one (i := 3) (by simp only [List.getElem?_toArray, List.getElem?_cons_succ, List.getElem?_cons_zero]; rfl) (by kernel_rfl) (by kernel_rfl) (fun K hK => ?_)
      refine wp_store_row 44 _ _ rfl w.heap.size c.cells rfl rfl 44 Kx.zero.cells R0.out infoX rfl (oneX _) ?_
      refine hK.out _ _ (hS.row (by omega) _) ?_
      clear hK K
      have hS := (show Bk 44 (Z0.setRow w.heap.size c.cells) (w.heap.size + 1) c.cells from hS.row (by omega) _)
      try simp only [Act.put]
      refine H.tk (i := 4) (v := (Value.int IntKind.i64 0)) (fun w _ => rfl) hS ?_
      try simp only [Act.put, List.setIfInBounds_toArray, List.set_cons_zero, List.set_cons_succ]
      refine H.tk (i := 5) (v := (Value.int IntKind.i64 0)) (fun w _ => rfl) hS ?_
      try simp only [Act.put, List.setIfInBounds_toArray, List.set_cons_zero, List.set_cons_succ]
      refine wpAnyH_done (by kernel_rfl) ?_ _
      go_wp2_with fail
      exact bodyPost_ret (v := .tuple #[.slice va ls.length vc, .agg (Kx.cells c), .int .i64 0, .int .i64 0]) (results_head (ty := 44) rfl _ _ w.heap.size (.agg (Kx.cells c)) (.slice va ls.length vc) rfl rfl (loadVarK shX (R0.out.put (Kx.cells c)) rfl) (.int .i64 0) rfl (.int .i64 0) rfl) rfl (by rw [HY.out]; exact ⟨va, vc, ls, rfl, HP0.out, ((HLM.out.under (by omega) (by omega) _).own (Nat.le_refl _)).mono (by omega), Box.below_setRow HB.out (Nat.le_refl _) _, HLM.out.room⟩)
    obtain ⟨p, rfl, hat⟩ := tl_at HL.out k hlt
    have HA := Lib.hid hat
    have ix := fun W => indexT p l.length kc k hlt W
    have HFS := Lib.hid (fold_step hlt HF.out)
    have hdk := HD.out _ (List.getElem_mem hlt)
    clear hat HF
    generalize l[k] = u at *
    obtain ⟨at0, d, n⟩ := u
    simp only [] at HA HFS hdk
    have P1 := Lib.hid (fun V => I3.rone_any c at0 n d V HC.out hdk)
    have hfew := one_few HC.out n d
    have HG := Lib.hid (one_fine HC.out n d).ok
    clear hdk
    generalize one c n d = q at *
    have hzr : w.heap.size + 1 + 1 ≤ wr.heap.size := D.out.c0.lt
    go_upto_region 6 with fail
    go_cut [9, 10, 11] (fun m1 m2 m3 wx => ∃ (g : Nat) (qa : Option Addr) (qk : Nat) (ls2 : List M), m1 = .pointer (some ⟨g, 0, none⟩) ∧ m2 = .slice qa ls2.length qk ∧ m3 = .int .i64 q.2.2 ∧ PlL ls2 q.2.1 ∧ MOwn wr.heap.size wx qa ls2 ∧ Bk 44 wx g q.1.cells ∧ wr.heap.size ≤ g ∧ Below wr.heap.size wr wx)
    case first =>
      refine wp_region_held_drew (S := fun W => Below wr.heap.size wr W) (by kernel_rfl) (Below.refl _ wr).drew (fun hS => ?_)
      have hz0 := hS.size
      generalize wr.drew = X0 at *
      refine H.tk (i := 0) (v := .agg c.cells) ?h0x1 hS ?_
      case h0x1 => exact (fun w hw => run_loadK shX (x := .tmp 7) rfl rfl (D.out.c0.below hw) rfl)
      try simp only [Act.put, List.setIfInBounds_toArray, List.set_cons_zero, List.set_cons_succ]
      refine H.tk (i := 1) (v := ?v1x2) ?h1x2 hS ?_
      case h1x2 => (intro w hw; go_simp; first | done | (with_reducible rfl))
      try simp only [Act.put, List.setIfInBounds_toArray, List.set_cons_zero, List.set_cons_succ]
      refine H.tk (i := 2) (v := ?v2x3) ?h2x3 hS ?_
      case h2x3 => (intro w hw; go_simp; first | done | (with_reducible rfl))
      try simp only [Act.put, List.setIfInBounds_toArray, List.set_cons_zero, List.set_cons_succ]
      refine H.tk (i := 3) (v := ?v3x4) ?h3x4 hS ?_
      case h3x4 => (intro w hw; go_simp; first | done | (with_reducible rfl))
      try simp only [Act.put, List.setIfInBounds_toArray, List.set_cons_zero, List.set_cons_succ]
      refine H.tk (i := 4) (v := .agg (cellsT (at0, (d, n)))) ?h4x5 hS ?_
      case h4x5 => exact (fun _ hw => ex_loadT rfl rfl (HA.out _ (bcall D.out.bel hw)))
      try simp only [Act.put, List.setIfInBounds_toArray, List.set_cons_zero, List.set_cons_succ]
      refine H.two (i := 5) (j := 10) (by simp only [List.getElem?_toArray, List.getElem?_cons_succ, List.getElem?_cons_zero]; rfl) (by kernel_rfl) (by simp only [List.getElem?_toArray, List.getElem?_cons_succ, List.getElem?_cons_zero]; rfl) (by kernel_rfl) (by kernel_rfl) (fun K hK => ?wa6) (fun K hK => ?wb6)
      case wa6 =>
        go_simp
        refine (P1.out _).mono ?_
        rintro e X1 ⟨qa, qk, ls2, rfl, hp, hm, hb⟩
        refine hK.out _ _ (bcall hS hb) ?_
        clear hK K
        have hS' := bcall hS hb
        clear hS
        have hS := hS'
        clear hS'
        have hz1 := hS.size
        have HP := Lib.hid hp
        have HM := Lib.hid hm
        clear hb hm hp
        try simp only [Act.put, List.setIfInBounds_toArray, List.set_cons_zero, List.set_cons_succ]
        refine H.tk (i := 6) (v := .tuple #[.agg q.1.cells, .slice qa ls2.length qk, .int .i64 q.2.2]) ?h6x7 hS ?_
        case h6x7 => exact (fun w hw => by go_simp)
        try simp only [Act.put, List.setIfInBounds_toArray, List.set_cons_zero, List.set_cons_succ]
        refine H.tk (i := 7) (v := .agg q.1.cells) ?h7x8 hS ?_
        case h7x8 => exact (fun w hw => by go_simp)
        try simp only [Act.put, List.setIfInBounds_toArray, List.set_cons_zero, List.set_cons_succ]
        refine H.tk (i := 8) (v := .slice qa ls2.length qk) ?h8x9 hS ?_
        case h8x9 => exact (fun w hw => by go_simp)
        try simp only [Act.put, List.setIfInBounds_toArray, List.set_cons_zero, List.set_cons_succ]
        refine H.tk (i := 9) (v := .int .i64 q.2.2) ?h9x10 hS ?_
        case h9x10 => exact (fun w hw => by go_simp)
        try simp only [Act.put, List.setIfInBounds_toArray, List.set_cons_zero, List.set_cons_succ]
        refine H.one (i := 10) (by simp only [List.getElem?_toArray, List.getElem?_cons_succ, List.getElem?_cons_zero]; rfl) (by kernel_rfl) (by kernel_rfl) (fun K hK => ?_)
        go_simp
        refine hK.out _ _ (balloc hS (.cells Kx.zero.cells 44)) ?_
        clear hK K
        change wpAnyH _ _ _ _ _ _ _ _ (X1.alloc (.cells Kx.zero.cells 44))
        have hS1 := Lib.hid hS
        have hS' := balloc hS (.cells Kx.zero.cells 44)
        clear hS
        have hS := hS'
        clear hS'
        try simp only [Act.put, List.setIfInBounds_toArray, List.set_cons_zero, List.set_cons_succ]
        refine H.one (i := 11) (by simp only [List.getElem?_toArray, List.getElem?_cons_succ, List.getElem?_cons_zero]; rfl) (by kernel_rfl) (by kernel_rfl) (fun K hK => ?_)
        refine wp_store_row 44 _ _ rfl X1.heap.size q.1.cells rfl rfl 44 Kx.zero.cells (heap_alloc_new _ _) infoX rfl (oneX _) ?_
        rw [World.setRow_alloc_new]
        refine hK.out _ _ (balloc hS1.out (.cells q.1.cells 44)) ?_
        clear hK K hS
        have hS := balloc hS1.out (.cells q.1.cells 44)
        have G0 := Lib.hid (Bk.Bk.new 44 X1 q.1.cells)
        have HM := Lib.hid ((HM.out.below (balloc (Below.refl _ X1) (.cells q.1.cells 44))).mono hz0)
        generalize X1.alloc (.cells q.1.cells 44) = Y at *
        clear hS1
        try simp only [Act.put]
        refine H.tk (i := 12) (v := .slice qa ls2.length qk) ?h12x11 hS ?_
        case h12x11 => exact (fun w hw => by go_simp)
        try simp only [Act.put, List.setIfInBounds_toArray, List.set_cons_zero, List.set_cons_succ]
        refine H.tk (i := 13) (v := .int .i64 q.2.2) ?h13x12 hS ?_
        case h13x12 => exact (fun w hw => by go_simp)
        try simp only [Act.put, List.setIfInBounds_toArray, List.set_cons_zero, List.set_cons_succ]
        refine wpAnyH_done (by kernel_rfl) ?_ _
        go_wp2_with fail
        go_meet
        exact ⟨X1.heap.size, qa, qk, ls2, rfl, rfl, rfl, HP.out, HM.out, G0.out, hz1, hS⟩
      case wb6 =>
        go_simp
        refine hK.out _ _ (balloc hS (.cells Kx.zero.cells 44)) ?_
        clear hK K
        change wpAnyH _ _ _ _ _ _ _ _ (X0.alloc (.cells Kx.zero.cells 44))
        have G0 := Lib.hid (Bk.Bk.new 44 X0 Kx.zero.cells)
        have hS' := balloc hS (.cells Kx.zero.cells 44)
        clear hS
        have hS := hS'
        clear hS'
        generalize X0.alloc (.cells Kx.zero.cells 44) = Y at *
        generalize X0.heap.size = g at *
        try simp only [Act.put, List.setIfInBounds_toArray, List.set_cons_zero, List.set_cons_succ]
        refine H.one (i := 5) (by simp only [List.getElem?_toArray, List.getElem?_cons_succ, List.getElem?_cons_zero]; rfl) (by kernel_rfl) (by kernel_rfl) (fun K hK => ?_)
        go_simp
        refine (P1.out _).mono ?_
        rintro e X1 ⟨qa, qk, ls2, rfl, hp, hm, hb⟩
        refine hK.out _ _ (bcall hS hb) ?_
        clear hK K
        have hS' := bcall hS hb
        have hgY := G0.out.lt
        have G0 := Lib.hid (G0.out.below hb)
        clear hS
        have hS := hS'
        clear hS'
        have hz1 := hS.size
        have HP := Lib.hid hp
        have HM := Lib.hid hm
        clear hb hm hp
        try simp only [Act.put, List.setIfInBounds_toArray, List.set_cons_zero, List.set_cons_succ]
        refine H.tk (i := 6) (v := .tuple #[.agg q.1.cells, .slice qa ls2.length qk, .int .i64 q.2.2]) ?h6x13 hS ?_
        case h6x13 => exact (fun w hw => by go_simp)
        try simp only [Act.put, List.setIfInBounds_toArray, List.set_cons_zero, List.set_cons_succ]
        refine H.tk (i := 7) (v := .agg q.1.cells) ?h7x14 hS ?_
        case h7x14 => exact (fun w hw => by go_simp)
        try simp only [Act.put, List.setIfInBounds_toArray, List.set_cons_zero, List.set_cons_succ]
        refine H.tk (i := 8) (v := .slice qa ls2.length qk) ?h8x15 hS ?_
        case h8x15 => exact (fun w hw => by go_simp)
        try simp only [Act.put, List.setIfInBounds_toArray, List.set_cons_zero, List.set_cons_succ]
        refine H.tk (i := 9) (v := .int .i64 q.2.2) ?h9x16 hS ?_
        case h9x16 => exact (fun w hw => by go_simp)
        try simp only [Act.put, List.setIfInBounds_toArray, List.set_cons_zero, List.set_cons_succ]
        refine H.one (i := 11) (by simp only [List.getElem?_toArray, List.getElem?_cons_succ, List.getElem?_cons_zero]; rfl) (by kernel_rfl) (by kernel_rfl) (fun K hK => ?_)
        refine wp_store_row 44 _ _ rfl g q.1.cells rfl rfl 44 Kx.zero.cells G0.out infoX rfl (oneX _) ?_
        refine hK.out _ _ (Box.below_setRow hS hz0 _) ?_
        clear hK K
        have hS' := Box.below_setRow hS hz0 q.1.cells
        clear hS
        have hS := hS'
        clear hS'
        have G0 := Lib.hid (G0.out.put q.1.cells)
        have HM := Lib.hid ((HM.out.under hgY q.1.cells).mono (B' := wr.heap.size) (by omega))
        generalize X1.setRow g q.1.cells = Y at *
        try simp only [Act.put]
        refine H.tk (i := 12) (v := .slice qa ls2.length qk) ?h12x17 hS ?_
        case h12x17 => exact (fun w hw => by go_simp)
        try simp only [Act.put, List.setIfInBounds_toArray, List.set_cons_zero, List.set_cons_succ]
        refine H.tk (i := 13) (v := .int .i64 q.2.2) ?h13x18 hS ?_
        case h13x18 => exact (fun w hw => by go_simp)
        try simp only [Act.put, List.setIfInBounds_toArray, List.set_cons_zero, List.set_cons_succ]
        refine wpAnyH_done (by kernel_rfl) ?_ _
        go_wp2_with fail
        go_meet
        exact ⟨g, qa, qk, ls2, rfl, rfl, rfl, HP.out, HM.out, G0.out, hz0, hS⟩
    case rest =>
      obtain ⟨g, qa, qk, ls2, rfl, rfl, rfl, hp, hm, hg, hgr, hb⟩ := hcut
      have D := Lib.hid (D.out.call hb)
      have HM0 := Lib.hid (HM0.out.below hb)
      have HG2 := Lib.hid hg
      have HP2 := Lib.hid hp
      have HM2 := Lib.hid hm
      have hl2 : ls2.length ≤ 1 := by rw [hp.1]; exact hfew
      have hwc := hb.size
      clear hb hg hp hm P1
      generalize wc = W at *
      by_cases he : q.2.2 = 0
      rotate_left
      · have HY := Lib.hid (HFS.out.2 he)
        have e1 : (q.2.2 == 0) = false := by simpa using he
        have e2 : (q.2.2 != 0) = true := by rw [bne, e1]; rfl
        clear he HFS HG2 HM2
        generalize q.2.2 = er at *
        go_upto_region 8 with fail
        have R0 := Lib.hid (show Bk 44 W.drew w.heap.size Kx.zero.cells from D.out.r0)
        have HB := Lib.hid D.out.bel.drew
        refine wp_region_held_drew (S := fun X => Below w.heap.size w X) (by kernel_rfl) (D.out.bel.drew) (fun hS => ?_)
        generalize W.drew = Z0 at *
        refine H.tk (i := 0) (v := .agg Kx.zero.cells) ?h0x1e hS ?_
        case h0x1e => exact (fun w hw => ex_built rfl (by kernel_rfl))
        try simp only [Act.put, List.setIfInBounds_toArray, List.set_cons_zero, List.set_cons_succ]
        refine H.tk (i := 1) (v := .slice (some p) l.length kc) ?h1x2e hS ?_
        case h1x2e => exact (fun w hw => by go_simp)
        try simp only [Act.put, List.setIfInBounds_toArray, List.set_cons_zero, List.set_cons_succ]
        refine H.tk (i := 2) (v := .int .i64 (k : Int)) ?h2x3e hS ?_
        case h2x3e => exact (fun w hw => by go_simp)
        try simp only [Act.put, List.setIfInBounds_toArray, List.set_cons_zero, List.set_cons_succ]
        refine H.tk (i := 3) (v := .pointer (some (p.add (k * 3)))) ?h3x4e hS ?_
        case h3x4e => exact (fun w hw => by go_simp)
        try simp only [Act.put, List.setIfInBounds_toArray, List.set_cons_zero, List.set_cons_succ]
        refine H.tk (i := 4) (v := .pointer (some ⟨(p.add (k * 3)).block, (p.add (k * 3)).off + 1, none⟩)) ?h4x5e hS ?_
        case h4x5e => exact (fun w hw => by go_simp)
        try simp only [Act.put, List.setIfInBounds_toArray, List.set_cons_zero, List.set_cons_succ]
        refine H.tk (i := 5) (v := .int .i64 at0) ?h5x6e hS ?_
        case h5x6e => exact (fun w hw => by have c := (HA.out _ hw).2.1; rw [Ms.add_one] at c; go_simp)
        try simp only [Act.put, List.setIfInBounds_toArray, List.set_cons_zero, List.set_cons_succ]
        refine H.tk (i := 6) (v := .int .i64 er) ?h6x7e hS ?_
        case h6x7e => exact (fun w hw => by go_simp)
        try simp only [Act.put, List.setIfInBounds_toArray, List.set_cons_zero, List.set_cons_succ]
        refine H.tk (i := 7) (v := (Value.slice none 0 0)) (fun w _ => rfl) hS ?_
        try simp only [Act.put, List.setIfInBounds_toArray, List.set_cons_zero, List.set_cons_succ]
        refine H.one (i := 8) (by simp only [List.getElem?_toArray, List.getElem?_cons_succ, List.getElem?_cons_zero]; rfl) (by kernel_rfl) (by kernel_rfl) (fun K hK => ?_)
        refine wp_store_row 44 _ _ rfl w.heap.size Kx.zero.cells rfl rfl 44 Kx.zero.cells R0.out infoX rfl (oneX _) ?_
        refine hK.out _ _ (Box.below_setRow hS (Nat.le_refl _) _) ?_
        clear hK K
        have hS := (show Below w.heap.size w (Z0.setRow w.heap.size Kx.zero.cells) from Box.below_setRow hS (Nat.le_refl _) _)
        try simp only [Act.put]
        refine H.tk (i := 9) (v := .int .i64 at0) ?h9x9e hS ?_
        case h9x9e => exact (fun w hw => by go_simp)
        try simp only [Act.put, List.setIfInBounds_toArray, List.set_cons_zero, List.set_cons_succ]
        refine H.tk (i := 10) (v := .int .i64 er) ?h10x10e hS ?_
        case h10x10e => exact (fun w hw => by go_simp)
        try simp only [Act.put, List.setIfInBounds_toArray, List.set_cons_zero, List.set_cons_succ]
        refine wpAnyH_done (by kernel_rfl) ?_ _
        go_wp2_with fail
        exact bodyPost_ret (v := .tuple #[.slice none 0 0, .agg (Kx.cells Kx.zero), .int .i64 at0, .int .i64 er]) (results_head (ty := 44) rfl _ _ w.heap.size (.agg (Kx.cells Kx.zero)) (.slice none 0 0) rfl rfl (loadVarK shX (R0.out.put (Kx.cells Kx.zero)) rfl) (.int .i64 at0) rfl (.int .i64 er) rfl) rfl (AnsF.no HY.out (Box.below_setRow HB.out (Nat.le_refl _) _))
      have HE := Lib.hid (HFS.out.1 he)
      have e1 : (q.2.2 == 0) = true := by simpa using he
      have e2 : (q.2.2 != 0) = false := by rw [bne, e1]; rfl
      clear he HFS
      generalize q.2.2 = er at *
      go_upto_region 10 with (first | (refine wpList_loadX (b := g) (m := q.1) rfl _ rfl rfl HG2.out ?_) | (refine wpList_storeX (b := w.heap.size + 1) (m := c) (m' := q.1) rfl _ _ rfl rfl rfl D.out.c0 ?_))
      have D := Lib.hid (D.out.put q.1)
      have HM0 := Lib.hid (HM0.out.under (g := w.heap.size + 1) (by omega) (by omega) q.1.cells)
      have HM2 := Lib.hid (HM2.out.under (g := w.heap.size + 1) (by omega) q.1.cells)
      have hws : w.heap.size + 1 + 1 ≤ (W.setRow (w.heap.size + 1) q.1.cells).heap.size := by simp; omega
      clear HG2
      generalize W.setRow (w.heap.size + 1) q.1.cells = W2 at *
      have HM2 := Lib.hid (HM2.out.mono hzr)
      have hln : ls.length + ls2.length ≤ 100000 := by have := HK0.out; omega
      have HPP := Lib.hid (PlL.app HP0.out HP2.out)
      have HKK := Lib.hid (show (ls ++ ls2).length ≤ k + 1 by rw [List.length_append]; have := HK0.out; omega)
      have HLN := Lib.hid hln
      have HWS := Lib.hid hws
      clear hln hws HP0 HP2 hl2 hfew
      go_upto_region 5 with (at_builtin; refine app_list rfl _ _ rfl (w.heap.size + 1 + 1) (w.heap.size + 1 + 1) _ ls ls2 qa qk rfl HM0.out rfl HM2.out HLN.out HWS.out ?_)
      intro v' w' hl hb hgr
      have D' := Lib.hid (show Fo w q.1 w' from ⟨D.out.r0.under hb (by omega), D.out.c0.under hb (by omega), D.out.bel.trans (hb.mono (by omega))⟩)
      have HM := Lib.hid hl
      clear hl hb hgr HM0 HM2 D
      go_wp2
      go_roundw
      case rel => exact ⟨k + 1, q.1, o ++ q.2.1, ls ++ ls2, hlt, by go_num, HG, HE, HPP, HKK, HM, D'⟩
      case measure => simp [intOf]; omega
end Go.Proofs.YtjhfpobjbijcpaaGreatDoor.I4
namespace Go.Proofs.YtjhfpobjbijcpaaGreatDoor.I5
open Go.ChangeShapes Go.WideShapes Go.ChangeAt Go.RowKit
open Go.Proofs.YtjhfpobjbijcpaaGreatDoor.Ms
open Go.Proofs.YtjhfpobjbijcpaaGreatDoor.Box
open Go.Proofs.YtjhfpobjbijcpaaGreatDoor.An
open Go.Proofs.YtjhfpobjbijcpaaGreatDoor.K1
open Go.Proofs.YtjhfpobjbijcpaaGreatDoor.Kb
open Go.Proofs.YtjhfpobjbijcpaaGreatDoor.I1
open Go.Proofs.YtjhfpobjbijcpaaGreatDoor.Lm
open Go.Proofs.YtjhfpobjbijcpaaGreatDoor.Fq
open Go.Proofs.YtjhfpobjbijcpaaGreatDoor.Tl (cellsT TRow indexT)
open Go.Proofs.YtjhfpobjbijcpaaGreatDoor.Or (st_yes)
open Go.Proofs.YtjhfpobjbijcpaaGreatDoor.Hs
open Go.Proofs.YtjhfpobjbijcpaaGreatDoor.Hy (H.one H.two wp_valW)
open Go.Proofs.YtjhfpobjbijcpaaGreatDoor.Hx (ex_built)
open Go.Proofs.YtjhfpobjbijcpaaGreatDoor.Bk (Bk wpList_builtK run_loadK loadVarK alloc_size)
open Go.Proofs.YtjhfpobjbijcpaaGreatDoor.F2 (results_head)
open Go.Proofs.YtjhfpobjbijcpaaGreatDoor.K6 (infoX)
set_option linter.unusedVariables false
set_option maxRecDepth 100000
open Go.Proofs.YtjhfpobjbijcpaaGreatDoor.F1 (outT outB trail head)
open Go.Proofs.YtjhfpobjbijcpaaGreatDoor.F2 (BodyIs rbody_any rtrailer_any)
open Go.Proofs.YtjhfpobjbijcpaaGreatDoor.F5 (rsplit_own)
open Go.Proofs.YtjhfpobjbijcpaaGreatDoor.I4 (rfold_any)
set_option maxHeartbeats 25600000 in
set_option maxRecDepth 100000 in
theorem rparse_any (b : ByteArray) (w : World) (hs : b.size ≤ 70000) : Calls Tryz.prog 12 #[.string b] w (AnsP (outP b) w) := by
  have PB := Lib.hid (fun V => rbody_any b V (by unfold maxLen; omega))
  unfold BodyIs at PB
  rcases I2.outB_two b with ⟨i, e, he, h1⟩ | ⟨s, hh, h1, hsz⟩
  · have HY := Lib.hid (outP_1 (by rw [h1]; exact he))
    rw [h1] at HY PB
    dsimp only at PB
    have e1 : (e == 0) = false := by simpa using he
    have e2 : (e != 0) = true := by rw [bne, e1]; rfl
    clear he hs h1
    go_enter Tryz.func12, Tryz.ntmps12
    go_wp2_with fail
    refine (PB.out _).mono ?_
    rintro r w1 ⟨rfl, hb⟩
    have HB := Lib.hid hb
    clear hb  PB
    go_wp2
    go_ret3
    exact AnsP.no HY.out HB.out
  rw [h1] at PB
  dsimp only at PB
  have PS := Lib.hid (fun V => rsplit_own s 4 V (by omega) (by omega) (by omega))
  have PT := Lib.hid (fun V => rtrailer_any b V (by unfold maxLen; omega) hh)
  have hts : (trail b).size ≤ b.size := by unfold trail; simp
  have PR := Lib.hid (fun V => rsplit_own (trail b) (4 + (s.size : Int)) V (by omega) (by omega) (by omega))
  have hsn : (s.size : Int) ≤ 70000 := by omega
  have hfew := I2.split_few 4 s
  have H2 := Lib.hid (outP_2 h1)
  have H3 := Lib.hid (outP_3 h1)
  have H4 := Lib.hid (outP_4 h1)
  have hl50 : (outT 4 s).1.length ≤ 70000 := by omega
  clear hs h1 hh hts hsz
  generalize outT 4 s = p at *
  generalize outT (4 + (s.size : Int)) (trail b) = q at *
  generalize trail b = tb at *
  obtain ⟨l, i1, e1⟩ := p
  obtain ⟨l', i2, e2⟩ := q
  simp only [] at H2 H3 H4 hfew hl50
  have hq1 : IntKind.i64.wrap (4 + (s.size : Int)) = 4 + (s.size : Int) := IntWalk.i64_in _ (by omega)
  have hq2 : wrap64 (4 + (s.size : Int)) = 4 + (s.size : Int) := IntWalk.wrap64_in _ (by omega)
  by_cases h2 : e1 = 0
  rotate_left
  · have HY := Lib.hid (H2.out h2)
    have f1 : (e1 == 0) = false := by simpa using h2
    have f2 : (e1 != 0) = true := by rw [bne, f1]; rfl
    clear h2 H2 H3 H4 hfew hl50
    go_enter Tryz.func12, Tryz.ntmps12
    go_wp2_with fail
    refine (PB.out _).mono ?_
    rintro r w1 ⟨rfl, hb⟩
    have HB := Lib.hid hb
    clear hb  PB
    go_wp2_with fail
    refine (PS.out _).mono ?_
    rintro e w2 ⟨sa, sc, rfl, hl, hb⟩
    have HB := Lib.hid (bcall HB.out hb)
    have HL := Lib.hid hl
    clear hb hl PS
    clear HL
    go_wp2
    go_ret3
    exact AnsP.no HY.out HB.out
  subst h2
  by_cases h3 : e2 = 0
  rotate_left
  · have HY := Lib.hid (H3.out rfl h3)
    have f1 : (e2 == 0) = false := by simpa using h3
    have f2 : (e2 != 0) = true := by rw [bne, f1]; rfl
    clear h3 H2 H3 H4 hfew hl50
    go_enter Tryz.func12, Tryz.ntmps12
    go_wp2_with fail
    refine (PB.out _).mono ?_
    rintro r w1 ⟨rfl, hb⟩
    have HB := Lib.hid hb
    clear hb  PB
    go_wp2_with fail
    refine (PS.out _).mono ?_
    rintro e w2 ⟨sa, sc, rfl, hl, hb⟩
    have HB := Lib.hid (bcall HB.out hb)
    have HL := Lib.hid hl
    clear hb hl PS
    go_wp2_with fail
    refine (PT.out _).mono ?_
    rintro r w3 ⟨rfl, hb⟩
    have HB := Lib.hid (bcall HB.out hb)
    have HL := Lib.hid (HL.out.below hb)
    clear hb PT
    go_wp2_with fail
    refine (PR.out _).mono ?_
    rintro e w4 ⟨sb, sd, rfl, hl, hb⟩
    have HB := Lib.hid (bcall HB.out hb)
    have HL := Lib.hid (HL.out.below hb)
    clear hb hl PR
    clear HL
    go_wp2
    go_ret3
    exact AnsP.no HY.out HB.out
  subst h3
  have HY := Lib.hid (H4.out rfl rfl)
  have PF := Lib.hid (fun V a k (h : TRow V a l) => rfold_any a l k V h hl50 (fun x hx => by have := (hfew.2 x hx).2.2; omega))
  clear H2 H3 H4 hfew hl50
  go_enter Tryz.func12, Tryz.ntmps12
  go_wp2_with fail
  refine (PB.out _).mono ?_
  rintro r w1 ⟨rfl, hb⟩
  have HB := Lib.hid hb
  clear hb  PB
  go_wp2_with fail
  refine (PS.out _).mono ?_
  rintro e w2 ⟨sa, sc, rfl, hl, hb⟩
  have HB := Lib.hid (bcall HB.out hb)
  have HL := Lib.hid hl
  clear hb hl PS
  go_wp2_with fail
  refine (PT.out _).mono ?_
  rintro r w3 ⟨rfl, hb⟩
  have HB := Lib.hid (bcall HB.out hb)
  have HL := Lib.hid (HL.out.below hb)
  clear hb PT
  go_wp2_with fail
  refine (PR.out _).mono ?_
  rintro e w4 ⟨sb, sd, rfl, hl, hb⟩
  have HB := Lib.hid (bcall HB.out hb)
  have HL := Lib.hid (HL.out.below hb)
  clear hb hl PR
  go_wp2_with fail
  refine (PF.out _ _ _ HL.out.row).mono ?_
  rintro e w5 ⟨qa, qk, l2, rfl, hp, hm, hb, -⟩
  have hw4 := HB.out.size
  have HB := Lib.hid (bcall HB.out hb)
  have HP := Lib.hid hp
  have HM := Lib.hid (hm.mono hw4)
  clear hb hp hm PF HL
  go_upto_region 11 with (refine wpList_storeX (b := w5.heap.size) (m := Kx.zero) (m' := (outI l).2.1) rfl _ _ rfl rfl rfl (Bk.Bk.new 44 w5 Kx.zero.cells) ?_)
  change Code.wp _ _ _ _ ((w5.alloc (.cells Kx.zero.cells 44)).setRow w5.heap.size (outI l).2.1.cells)
  rw [World.setRow_alloc_new]
  have bel := balloc (Below.refl w5.heap.size w5) (.cells (outI l).2.1.cells 44)
  have HB := Lib.hid (bcall HB.out bel)
  have HM := Lib.hid (HM.out.below bel)
  clear bel
  generalize w5.alloc (.cells (outI l).2.1.cells 44) = w6 at *
  go_wp2
  go_ret3
  exact ⟨qa, qk, l2, by rw [HY.out]; rfl, by rw [HY.out]; exact HP.out, HM.out, HB.out⟩
end Go.Proofs.YtjhfpobjbijcpaaGreatDoor.I5
