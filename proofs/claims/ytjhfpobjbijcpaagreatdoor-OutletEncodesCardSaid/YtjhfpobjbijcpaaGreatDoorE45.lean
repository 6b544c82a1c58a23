/-
  The document's Encode and Plain. Conditions: at most 3000 messages, whose lists and prefixes aren't long.
  A list of messages that came in, opened: each stands in the world, its prefix isn't too long, the list has room; its first messages; two lists told apart. No conditions.
-/
import Derived.Test.YtjhfpobjbijcpaaGreatDoorE13
import Derived.Test.YtjhfpobjbijcpaaGreatDoorE24
import Derived.Test.YtjhfpobjbijcpaaGreatDoorE34
import Derived.Test.YtjhfpobjbijcpaaGreatDoorE42
import Derived.Test.YtjhfpobjbijcpaaGreatDoorE43
namespace Go.Proofs.YtjhfpobjbijcpaaGreatDoor.O4
open Go.ChangeShapes Go.WideShapes Go.ChangeAt Go.RowKit
open Go.Proofs.YtjhfpobjbijcpaaGreatDoor.Ms
open Go.Proofs.YtjhfpobjbijcpaaGreatDoor.Box
open Go.Proofs.YtjhfpobjbijcpaaGreatDoor.All
open Go.Proofs.YtjhfpobjbijcpaaGreatDoor.K1
open Go.Proofs.YtjhfpobjbijcpaaGreatDoor.Kb
open Go.Proofs.YtjhfpobjbijcpaaGreatDoor.L2
open Go.Proofs.YtjhfpobjbijcpaaGreatDoor.O1
open Go.Proofs.YtjhfpobjbijcpaaGreatDoor.O3
open Go.Proofs.YtjhfpobjbijcpaaGreatDoor.F1 (wrap)
open Go.Proofs.YtjhfpobjbijcpaaGreatDoor.F6 (cat_is WrapIs)
open Go.Proofs.YtjhfpobjbijcpaaGreatDoor.Hs
open Go.Proofs.YtjhfpobjbijcpaaGreatDoor.Hy (H.one H.two wp_valW)
open Go.Proofs.YtjhfpobjbijcpaaGreatDoor.Bk (Bk run_loadK loadVarK alloc_size)
open Go.Proofs.YtjhfpobjbijcpaaGreatDoor.Cx (infoX)
set_option linter.unusedVariables false
set_option maxRecDepth 100000
theorem int_eq {k : IntKind} {a b : Int} (h : a = b) : Ending.returned (.int k a) = .returned (.int k b) := by rw [h]
set_option maxHeartbeats 12800000 in
set_option maxRecDepth 100000 in
theorem rencode_any (a : Option Addr) (c : Nat) (l : List M) (w : World) (hl : MRow w a l) (hs : ∀ m ∈ l, Sp m) (hn : l.length ≤ 3000) : Calls Tryz.prog 9 #[.slice a l.length c] w (AnsE (outE l) w) := by
  have HMr := Lib.hid (fun (W : World) (h : Below w.heap.size w W) => hl.below h)
  have HSh := Lib.hid hs
  clear hs hl
  go_enter Tryz.func9, Tryz.ntmps9
  go_upto_region 2 with fail
  go_loopw [5] (fun i wr => ∃ k : Nat, k ≤ l.length ∧ i = .int .i64 k ∧ Hid (∀ j (hj : j < l.length), j < k → okL l[j] = true) ∧ Hid (Below w.heap.size w wr)) (fun i _ => l.length - (intOf i).toNat)
  case atStart => exact ⟨0, Nat.zero_le _, rfl, Lib.hid (fun j _ hj => absurd hj (Nat.not_lt_zero j)), Lib.hid (Below.refl _ _)⟩
  case round =>
    obtain ⟨k, hk, rfl, HT, HB⟩ := hrel
    by_cases hlt : k < l.length
    · have hrow := HMr.out _ HB.out
      have hin := row_in hrow HSh.out hlt
      obtain ⟨p, rfl, -, hc, -, -⟩ := hrow k hlt
      have hsp := HSh.out _ (List.getElem_mem hlt)
      have P := Lib.hid (L8.rright_any l[k] wr hin hsp.2.2.1 hsp.2.2.2)
      have HI := Lib.hid (fun (h : okL l[k] = false) => enc_wrong hlt HT.out h)
      have HJ := Lib.hid (fun (h : okL l[k] = true) => show ∀ j (hj : j < l.length), j < k + 1 → okL l[j] = true from fun j hj hjk => by
        by_cases hik : j < k
        · exact HT.out j hj hik
        · obtain rfl : j = k := by omega
          exact h)
      have HC := Lib.hid hc
      have ixk := indexM p l.length c k hlt
      clear hrow hin hc HT hsp
      generalize l[k] = u at *
      generalize okL u = x at *
      cases x
      · have HZ := Lib.hid (HI.out rfl)
        clear HI HJ
        go_wp2_with (first | (refine wpList_loadA (m := u) rfl _ rfl rfl HC.out ?_))
        refine P.out.mono ?_
        rintro e w1 ⟨rfl, hb1⟩
        go_wp2
        go_ret3
        exact AnsE.of HZ.out (bcall HB.out hb1)
      · have HZ := Lib.hid (HJ.out rfl)
        clear HI HJ
        go_wp2_with (first | (refine wpList_loadA (m := u) rfl _ rfl rfl HC.out ?_))
        refine P.out.mono ?_
        rintro e w1 ⟨rfl, hb1⟩
        have HB1 := Lib.hid (bcall HB.out hb1)
        clear hb1
        go_wp2
        go_roundw
        case rel => exact ⟨k + 1, hlt, by go_num, HZ, HB1⟩
        case measure => simp [intOf]; omega
    obtain rfl : k = l.length := by omega
    have HA := Lib.hid (show ∀ j (hj : j < l.length), okL l[j] = true from fun j hj => HT.out j hj hj)
    have S0 := Lib.hid (St.start HA.out)
    clear hk hlt HT
    go_upto_region 8 with fail
    change Code.wp _ _ _ _ (wr.alloc (.cells Kx.zero.cells 44))
    have C0 := Lib.hid (Bk.Bk.new 44 wr Kx.zero.cells)
    have HB2 := Lib.hid (balloc HB.out (.cells Kx.zero.cells 44))
    have hzg : w.heap.size ≤ wr.heap.size := HB.out.size
    clear HB
    generalize wr.alloc (.cells Kx.zero.cells 44) = V at *
    generalize wr.heap.size = g at *
    go_wp2
    go_loopw [6, 8] (fun s i wr => ∃ (k : Nat) (q : Kx) (b : ByteArray), k ≤ l.length ∧ i = .int .i64 k ∧ s = .string b ∧ Hid (St l k q b) ∧ Hid (Bk 44 wr g q.cells) ∧ Hid (Below w.heap.size w wr)) (fun _ i _ => l.length - (intOf i).toNat)
    case atStart => exact ⟨0, Kx.zero, ByteArray.empty, Nat.zero_le _, rfl, rfl, S0, C0, HB2⟩
    case round =>
      clear HB2 C0 S0
      obtain ⟨k, q, b, hk, rfl, rfl, HS, HC, HB⟩ := hrel
      by_cases hlt : k < l.length
      rotate_left
      · obtain rfl : k = l.length := by omega
        have HZ := Lib.hid (HS.out.done)
        have PW := Lib.hid (fun V => F6.rwrap_any b V (by have := HS.out.size; omega))
        clear HS HC hk hlt
        go_wp2_with fail
        refine (PW.out _).mono ?_
        rintro e w1 ⟨rfl, hb⟩
        have HB := Lib.hid (bcall HB.out hb)
        clear hb PW
        go_wp2
        go_ret3
        exact AnsE.of HZ.out HB.out
      obtain ⟨p, rfl, hpb, hc, -, -⟩ := HMr.out _ HB.out k hlt
      have hsp := HSh.out _ (List.getElem_mem hlt)
      have P1 := Lib.hid (fun W (h : Below w.heap.size w W) => L9.rput_any q l[k] W (row_in (HMr.out W h) HSh.out hlt) hsp.2.1 hsp.2.2.1 hsp.2.2.2 HS.out.ok)
      have hst := HS.out.step hlt (HA.out k hlt)
      have HPL := Lib.hid (put_len q l[k])
      have HSZ := Lib.hid HS.out.size
      have ixk := indexM p l.length c k hlt
      have HCl := Lib.hid (fun W (h : Below wr.heap.size wr W) => show ∀ j v, (l[k].cells.toList)[j]? = some v → W.cell? ((p.add (k * 25)).add j) = some v from fun j v hv => (h.cell (p := (p.add (k * 25)).add j) (by rw [add_block, add_block]; exact hpb)).trans (hc j v hv))
      have HK := Lib.hid hlt
      clear hc hpb hsp HS
      generalize l[k] = u at *
      clear hk hlt
      obtain ⟨r1, q2, er, hr⟩ : ∃ x y z, putL q u = (x, y, z) := ⟨_, _, _, rfl⟩
      rw [hr] at P1 hst HPL
      have HST := Lib.hid hst
      have hgr : g < wr.heap.size := HC.out.lt
      clear hst hr
      go_upto_region 11 with fail
      go_cut [9, 10, 11] (fun m1 m2 m3 wx => ∃ (g2 : Nat), m1 = .string r1 ∧ m2 = .pointer (some ⟨g2, 0, none⟩) ∧ m3 = .int .i64 er ∧ Bk 44 wx g2 q2.cells ∧ wr.heap.size ≤ g2 ∧ Below wr.heap.size wr wx)
      case first =>
        refine wp_region_held_drew (S := fun W => Below wr.heap.size wr W) (by kernel_rfl) (Below.refl _ wr).drew (fun hS => ?_)
        have hz0 := hS.size
        generalize wr.drew = X0 at *
        refine H.tk (i := 0) (v := .agg q.cells) ?h0x13 hS ?_
        case h0x13 => exact (fun w hw => run_loadK shX (x := .tmp 7) rfl rfl (HC.out.below hw) rfl)
        try simp only [Act.put, List.setIfInBounds_toArray, List.set_cons_zero, List.set_cons_succ]
        refine H.tk (i := 1) (v := ?vh1x14) ?h1x14 hS ?_
        case h1x14 => (intro w hw; go_simp; first | done | (with_reducible rfl))
        try simp only [Act.put, List.setIfInBounds_toArray, List.set_cons_zero, List.set_cons_succ]
        refine H.tk (i := 2) (v := ?vh2x15) ?h2x15 hS ?_
        case h2x15 => (intro w hw; go_simp; first | done | (with_reducible rfl))
        try simp only [Act.put, List.setIfInBounds_toArray, List.set_cons_zero, List.set_cons_succ]
        refine H.tk (i := 3) (v := ?vh3x16) ?h3x16 hS ?_
        case h3x16 => (intro w hw; go_simp; first | done | (with_reducible rfl))
        try simp only [Act.put, List.setIfInBounds_toArray, List.set_cons_zero, List.set_cons_succ]
        refine H.tk (i := 4) (v := .agg u.cells) ?h4x17 hS ?_
        case h4x17 => exact (fun _ hw => ex_loadA (x := .tmp 37) rfl rfl (HCl.out _ hw))
        try simp only [Act.put, List.setIfInBounds_toArray, List.set_cons_zero, List.set_cons_succ]
        refine H.two (i := 5) (j := 10) (by simp only [List.getElem?_toArray, List.getElem?_cons_succ, List.getElem?_cons_zero]; rfl) (by kernel_rfl) (by simp only [List.getElem?_toArray, List.getElem?_cons_succ, List.getElem?_cons_zero]; rfl) (by kernel_rfl) (by kernel_rfl) (fun K hK => ?wa6) (fun K hK => ?wb6)
        case wa6 =>
          go_simp
          refine (P1.out _ (bcall HB.out hS)).mono ?_
          rintro e X1 ⟨rfl, hb⟩
          refine hK.out _ _ (bcall hS hb) ?_
          clear hK K
          have hS' := bcall hS hb
          clear hS
          have hS := hS'
          clear hS'
          have hz1 := hS.size
          clear hb
          refine H.tk (i := 6) (v := .tuple #[.string r1, .agg q2.cells, .int .i64 er]) ?h6x1 hS ?_
          case h6x1 => exact (fun w hw => by go_simp)
          try simp only [Act.put, List.setIfInBounds_toArray, List.set_cons_zero, List.set_cons_succ]
          refine H.tk (i := 7) (v := .string r1) ?h7x2 hS ?_
          case h7x2 => exact (fun w hw => by go_simp)
          try simp only [Act.put, List.setIfInBounds_toArray, List.set_cons_zero, List.set_cons_succ]
          refine H.tk (i := 8) (v := .agg q2.cells) ?h8x3 hS ?_
          case h8x3 => exact (fun w hw => by go_simp)
          try simp only [Act.put, List.setIfInBounds_toArray, List.set_cons_zero, List.set_cons_succ]
          refine H.tk (i := 9) (v := .int .i64 er) ?h9x4 hS ?_
          case h9x4 => exact (fun w hw => by go_simp)
          try simp only [Act.put, List.setIfInBounds_toArray, List.set_cons_zero, List.set_cons_succ]
          refine H.one (i := 10) (by simp only [List.getElem?_toArray, List.getElem?_cons_succ, List.getElem?_cons_zero]; rfl) (by kernel_rfl) (by kernel_rfl) (fun K hK => ?_)
          go_simp
          refine hK.out _ _ (balloc hS (.cells Kx.zero.cells 44)) ?_
          clear hK K
          change wpAnyH _ _ _ _ _ _ _ _ (X1.alloc (.cells Kx.zero.cells 44))
          have hS1 := Lib.hid hS
          have hS' := balloc hS (.cells Kx.zero.cells 44)
          clear hS
          have hS := hS'
          clear hS'
          try simp only [Act.put, List.setIfInBounds_toArray, List.set_cons_zero, List.set_cons_succ]
          refine H.tk (i := 11) (v := .string r1) ?h11x5 hS ?_
          case h11x5 => exact (fun w hw => by go_simp)
          try simp only [Act.put, List.setIfInBounds_toArray, List.set_cons_zero, List.set_cons_succ]
          refine H.one (i := 12) (by simp only [List.getElem?_toArray, List.getElem?_cons_succ, List.getElem?_cons_zero]; rfl) (by kernel_rfl) (by kernel_rfl) (fun K hK => ?_)
          refine wp_store_row 44 _ _ rfl X1.heap.size q2.cells rfl rfl 44 Kx.zero.cells (heap_alloc_new _ _) infoX rfl (oneX _) ?_
          rw [World.setRow_alloc_new]
          refine hK.out _ _ (balloc hS1.out (.cells q2.cells 44)) ?_
          clear hK K hS
          have hS := balloc hS1.out (.cells q2.cells 44)
          have G0 := Lib.hid (Bk.Bk.new 44 X1 q2.cells)
          generalize X1.alloc (.cells q2.cells 44) = Y at *
          clear hS1
          try simp only [Act.put]
          refine H.tk (i := 13) (v := .int .i64 er) ?h13x6 hS ?_
          case h13x6 => exact (fun w hw => by go_simp)
          try simp only [Act.put, List.setIfInBounds_toArray, List.set_cons_zero, List.set_cons_succ]
          refine wpAnyH_done (by kernel_rfl) ?_ _
          go_wp2_with fail
          go_meet
          exact ⟨X1.heap.size, rfl, rfl, rfl, G0.out, hz1, hS⟩
        case wb6 =>
          go_simp
          refine hK.out _ _ (balloc hS (.cells Kx.zero.cells 44)) ?_
          clear hK K
          change wpAnyH _ _ _ _ _ _ _ _ (X0.alloc (.cells Kx.zero.cells 44))
          have G0 := Lib.hid (Bk.Bk.new 44 X0 Kx.zero.cells)
          have hS' := balloc hS (.cells Kx.zero.cells 44)
          clear hS
          have hS := hS'
          clear hS'
          generalize X0.alloc (.cells Kx.zero.cells 44) = Y at *
          generalize X0.heap.size = g2 at *
          try simp only [Act.put, List.setIfInBounds_toArray, List.set_cons_zero, List.set_cons_succ]
          refine H.one (i := 5) (by simp only [List.getElem?_toArray, List.getElem?_cons_succ, List.getElem?_cons_zero]; rfl) (by kernel_rfl) (by kernel_rfl) (fun K hK => ?_)
          go_simp
          refine (P1.out _ (bcall HB.out hS)).mono ?_
          rintro e X1 ⟨rfl, hb⟩
          refine hK.out _ _ (bcall hS hb) ?_
          clear hK K
          have hS' := bcall hS hb
          clear hS
          have hS := hS'
          clear hS'
          have hz1 := hS.size
          have G0 := Lib.hid (G0.out.below hb)
          clear hb
          refine H.tk (i := 6) (v := .tuple #[.string r1, .agg q2.cells, .int .i64 er]) ?h6x7 hS ?_
          case h6x7 => exact (fun w hw => by go_simp)
          try simp only [Act.put, List.setIfInBounds_toArray, List.set_cons_zero, List.set_cons_succ]
          refine H.tk (i := 7) (v := .string r1) ?h7x8 hS ?_
          case h7x8 => exact (fun w hw => by go_simp)
          try simp only [Act.put, List.setIfInBounds_toArray, List.set_cons_zero, List.set_cons_succ]
          refine H.tk (i := 8) (v := .agg q2.cells) ?h8x9 hS ?_
          case h8x9 => exact (fun w hw => by go_simp)
          try simp only [Act.put, List.setIfInBounds_toArray, List.set_cons_zero, List.set_cons_succ]
          refine H.tk (i := 9) (v := .int .i64 er) ?h9x10 hS ?_
          case h9x10 => exact (fun w hw => by go_simp)
          try simp only [Act.put, List.setIfInBounds_toArray, List.set_cons_zero, List.set_cons_succ]
          refine H.tk (i := 11) (v := .string r1) ?h11x11 hS ?_
          case h11x11 => exact (fun w hw => by go_simp)
          try simp only [Act.put, List.setIfInBounds_toArray, List.set_cons_zero, List.set_cons_succ]
          refine H.one (i := 12) (by simp only [List.getElem?_toArray, List.getElem?_cons_succ, List.getElem?_cons_zero]; rfl) (by kernel_rfl) (by kernel_rfl) (fun K hK => ?_)
          refine wp_store_row 44 _ _ rfl g2 q2.cells rfl rfl 44 Kx.zero.cells G0.out infoX rfl (oneX _) ?_
          refine hK.out _ _ (Box.below_setRow hS hz0 _) ?_
          clear hK K
          have hS' := Box.below_setRow hS hz0 q2.cells
          clear hS
          have hS := hS'
          clear hS'
          have G0 := Lib.hid (G0.out.put q2.cells)
          generalize X1.setRow g2 q2.cells = Y at *
          try simp only [Act.put]
          refine H.tk (i := 13) (v := .int .i64 er) ?h13x12 hS ?_
          case h13x12 => exact (fun w hw => by go_simp)
          try simp only [Act.put, List.setIfInBounds_toArray, List.set_cons_zero, List.set_cons_succ]
          refine wpAnyH_done (by kernel_rfl) ?_ _
          go_wp2_with fail
          go_meet
          exact ⟨g2, rfl, rfl, rfl, G0.out, hz0, hS⟩
      case rest =>
        obtain ⟨g2, rfl, rfl, rfl, hg, hgr2, hb⟩ := hcut
        have HC := Lib.hid (HC.out.below hb)
        have HB := Lib.hid (bcall HB.out hb)
        have HG := Lib.hid hg
        clear hb hg P1 HCl ixk
        generalize wc = W at *
        by_cases he : er = 0
        rotate_left
        · have HY := Lib.hid (HST.out.1 he)
          have e1 : (er == 0) = false := by simpa using he
          have e2 : (er != 0) = true := by rw [bne, e1]; rfl
          clear he HST HG HC
          go_wp2
          go_ret3
          exact AnsE.of HY.out HB.out
        subst he
        have HS2 := Lib.hid (HST.out.2.1 rfl)
        have HS3 := Lib.hid (HST.out.2.2 rfl)
        clear HST
        go_upto_region 15 with (first | (refine wpList_loadX (b := g2) (m := q2) rfl _ rfl rfl HG.out ?_) | (refine wpList_storeX (b := g) (m := q) (m' := q2) rfl _ _ rfl rfl rfl HC.out ?_))
        have HC := Lib.hid (HC.out.put q2.cells)
        have HB := Lib.hid (Box.below_setRow HB.out hzg q2.cells)
        clear HG
        generalize W.setRow g q2.cells = W2 at *
        have cat := cat_is b r1 _ (by have := HSZ.out; omega) (by have : r1.size ≤ 1000 := HPL.out; omega) rfl
        have hsz : (b ++ r1).size = b.size + r1.size := ByteArray.size_append
        have HL := Lib.hid (show ((b ++ r1).size : Int) ≤ 100000 by have := HSZ.out; have : r1.size ≤ 1000 := HPL.out; omega)
        clear hsz HPL HSZ
        by_cases hbig : 65531 < (b ++ r1).size
        · have HY := Lib.hid (HS2.out hbig)
          have h1 : (65531 : Int) < ((b ++ r1).size : Int) := by omega
          have hL := HL.out
          clear HS2 HS3 hbig
          generalize b ++ r1 = b2 at *
          go_wp2
          go_ret3
          exact AnsE.of HY.out HB.out
        have HY := Lib.hid (HS3.out hbig)
        have h1 : ¬ (65531 : Int) < ((b ++ r1).size : Int) := by omega
        have hL := HL.out
        have hlt := HK.out
        clear HS2 HS3 hbig
        generalize b ++ r1 = b2 at *
        go_wp2
        go_roundw
        case rel => exact ⟨k + 1, q2, b2, hlt, by go_num, rfl, HY, HC, HB⟩
        case measure => simp [intOf]; omega
set_option maxHeartbeats 12800000 in
set_option maxRecDepth 100000 in
theorem rplain_any (a : Option Addr) (c : Nat) (l : List M) (w : World) (hl : MRow w a l) (hs : ∀ m ∈ l, Sp m) (hn : l.length ≤ 3000) : Calls Tryz.prog 11 #[.slice a l.length c] w fun e w' => e = .returned (.int .i64 (outN l)) ∧ Below w.heap.size w w' := by
  have HMr := Lib.hid (fun (W : World) (h : Below w.heap.size w W) => hl.below h)
  have HSh := Lib.hid hs
  clear hs hl
  go_enter Tryz.func11, Tryz.ntmps11
  go_upto_region 3 with fail
  go_loopw [3, 4] (fun n i wr => ∃ (k : Nat) (z : Int), k ≤ l.length ∧ i = .int .i64 k ∧ n = .int .i64 z ∧ Hid (Sn l k z) ∧ Hid (Below w.heap.size w wr)) (fun _ i _ => l.length - (intOf i).toNat)
  case atStart => exact ⟨0, 4, Nat.zero_le _, rfl, rfl, Lib.hid (Sn.start l), Lib.hid (Below.refl _ _)⟩
  case round =>
    obtain ⟨k, z, hk, rfl, rfl, HS, HB⟩ := hrel
    by_cases hlt : k < l.length
    rotate_left
    · obtain rfl : k = l.length := by omega
      have HZ := Lib.hid HS.out.done
      clear HS hk hlt
      go_wp2
      go_ret
      exact ⟨int_eq HZ.out.symm, HB.out⟩
    have hrow := HMr.out _ HB.out
    have hin := row_in hrow HSh.out hlt
    obtain ⟨p, rfl, -, hc, -, -⟩ := hrow k hlt
    have hsp := HSh.out _ (List.getElem_mem hlt)
    have P1 := Lib.hid (Lp.rplain_any l[k] wr hin hsp.2.1 hsp.2.2.1 hsp.2.2.2)
    have hst := HS.out.step hlt
    have hr := HS.out.range hn
    have ixk := indexM p l.length c k hlt
    have HC := Lib.hid hc
    clear hrow hin hc hsp HS
    generalize l[k] = u at *
    obtain ⟨r1, x, hp⟩ : ∃ x y, plainL u = (x, y) := ⟨_, _, rfl⟩
    rw [hp] at P1 hst
    cases x
    · have HY := Lib.hid (hst.2 rfl)
      clear hst hr hp
      go_wp2_with (first | (refine wpList_loadA (m := u) rfl _ rfl rfl HC.out ?_))
      refine P1.out.mono ?_
      rintro e w1 ⟨rfl, hb⟩
      have HB := Lib.hid (bcall HB.out hb)
      clear hb P1
      go_wp2
      go_ret
      exact ⟨int_eq HY.out.symm, HB.out⟩
    have HY := Lib.hid (hst.1 rfl).1
    have h1 : r1.size ≤ 1000 := (hst.1 rfl).2
    clear hst hp
    go_wp2_with (first | (refine wpList_loadA (m := u) rfl _ rfl rfl HC.out ?_))
    refine P1.out.mono ?_
    rintro e w1 ⟨rfl, hb⟩
    have HB := Lib.hid (bcall HB.out hb)
    clear hb P1
    go_wp2
    go_roundw
    case rel => exact ⟨k + 1, z + r1.size, hlt, by go_num, by go_num, HY, HB⟩
    case measure => simp [intOf]; omega
end Go.Proofs.YtjhfpobjbijcpaaGreatDoor.O4
namespace Go.Proofs.YtjhfpobjbijcpaaGreatDoor.Ol
open Go.ChangeShapes Go.WideShapes Go.ChangeAt Go.RowKit Go.Deep
open Go.Proofs.YtjhfpobjbijcpaaGreatDoor.Ms
open Go.Proofs.YtjhfpobjbijcpaaGreatDoor.Box
open Go.Proofs.YtjhfpobjbijcpaaGreatDoor.Few
open Go.Proofs.YtjhfpobjbijcpaaGreatDoor.All
open Go.Proofs.YtjhfpobjbijcpaaGreatDoor.Open
open Go.Proofs.YtjhfpobjbijcpaaGreatDoor.Kb (open_msgP)
open Go.Proofs.YtjhfpobjbijcpaaGreatDoor.O3 (Sp)
set_option linter.unusedVariables false
set_option maxRecDepth 100000
section
variable {H : Type} {enc : TypeId × Value → H} {W : World}
theorem by_listP {base : Nat} {v : Value} {d : DataW H} {p : List MemPlace} (hv : Value.okWide Tryz.prog W .any base 22 v) (h : DataW.Trod enc Tryz.prog W 0 (fun _ => true) true 22 v d p) :
    ∃ (a : Option Addr) (l : List M) (c : Nat), v = .slice a l.length c ∧ MRow W a l ∧ l.length ≤ 9223372036854775807 ∧ l.length ≤ c ∧ ∀ m ∈ l, m.pfx.size ≤ maxLen := by
  obtain ⟨fuel, hf⟩ := h
  have hvc := okWide_slice Tryz.underlying22 hv
  obtain ⟨va, vn, vc, rfl⟩ := hvc
  rcases open_slice Tryz.underlying22 hf with h0 | ⟨a, len, cap, m, n, D, Pl, hcs, hb, hl, hm, hmm, hx, hi⟩
  · have e := h0.1
    simp [Value.cells] at e
    obtain ⟨rfl, rfl, rfl⟩ := e
    exact ⟨none, [], 0, rfl, MRow.nil _ _, by simp, Nat.le_refl _, fun m hm => absurd hm (by simp)⟩
  · simp [Value.cells] at hcs
    obtain ⟨rfl, rfl, rfl⟩ := hcs
    obtain ⟨l, hll, hr⟩ := els (n := vn) (R := fun i (u : M) => (∀ j v, (u.cells.toList)[j]? = some v → W.cell? ((a.add (i * 25)).add j) = some v) ∧ DRow W u.la u.ll ∧ SRow W u.sa u.sl ∧ u.pfx.size ≤ maxLen) (fun i hin => by
      obtain ⟨cs', hc, ht'⟩ := hi i (by rw [hmm]; split <;> omega)
      rw [cellsM] at hc
      obtain ⟨u, rfl, hd, hs, hp⟩ := open_msgP ht'
      obtain ⟨_, hcl, hat⟩ := World.cells?_some hc
      refine ⟨u, fun j v hv => ?_, hd, hs, hp⟩
      have hj : j < 25 := by
        have := (List.getElem?_eq_some_iff.1 hv).1
        simpa [M.cells] using this
      rw [hat j hj]; exact hv)
    refine ⟨some a, l, vc, by rw [hll], fun i hin => ⟨a, rfl, ?_, (hr i hin).1, (hr i hin).2.1, (hr i hin).2.2.1⟩, by unfold maxLen at hm; omega, by omega, fun m hm => ?_⟩
    · have := block_lt_of_cell ((hr i hin).1 0 _ rfl)
      rwa [add_block, add_block] at this
    · obtain ⟨i, hi, rfl⟩ := List.getElem_of_mem hm
      exact (hr i hi).2.2.2
end
theorem few_all {l : List M} {n : Int} (h : fewL l n = true) (hp : ∀ m ∈ l, m.pfx.size ≤ maxLen) : (l.length : Int) ≤ n ∧ ∀ m ∈ l, Sp m := by
  unfold fewL at h
  simp only [Bool.and_eq_true, decide_eq_true_eq] at h
  exact ⟨h.1, fun m hm => Sp.few (List.all_eq_true.1 h.2 m hm) (hp m hm)⟩
end Go.Proofs.YtjhfpobjbijcpaaGreatDoor.Ol
