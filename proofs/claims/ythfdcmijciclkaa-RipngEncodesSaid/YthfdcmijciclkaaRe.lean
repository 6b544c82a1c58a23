/-
  The document's own Encode. Conditions: a list of at most 1000 messages, whose lists aren't long.
-/
import Derived.Test.YthfdcmijciclkaaRn
import Derived.Test.YthfdcmijciclkaaEc
namespace Go.Proofs.Ythfdcmijciclkaa.Re
open Go.ChangeShapes Go.WideShapes Go.ChangeAt Go.RowKit
open Go.Proofs.Ythfdcmijciclkaa.Ms
open Go.Proofs.Ythfdcmijciclkaa.Box
open Go.Proofs.Ythfdcmijciclkaa.Rp
open Go.Proofs.Ythfdcmijciclkaa.Rt
open Go.Proofs.Ythfdcmijciclkaa.Hs
open Go.Proofs.Ythfdcmijciclkaa.Hx
open Go.Proofs.Ythfdcmijciclkaa.All
open Go.Proofs.Ythfdcmijciclkaa.Ec
open Go.Proofs.Ythfdcmijciclkaa.Bk (E Bk shE wpList_builtK)
set_option linter.unusedVariables false
set_option maxRecDepth 100000

theorem of_any (n : Int) (k : Nat) (ki : Int) (hk : ki = k) (h1 : 1 ≤ k) (h7 : k ≤ 7) (w : World) : Calls Try.prog 37 #[.int .i64 n, .int .i64 ki] w fun e w' => e = .returned (.string ⟨(Rte.layN n k).toArray⟩) ∧ Below w.heap.size w w' := by
  have P1 := Lib.hid (fun W => Rte.octet_any n k ki hk h1 h7 W)
  clear hk h1 h7
  generalize Rte.layN n k = t at *
  generalize Oct.fitsB n k = x at *
  go_enter Try.func37, Try.ntmps37
  go_wp2_with fail
  refine (P1.out _).mono ?_
  rintro e w1 ⟨rfl, hb⟩
  go_wp2
  go_ret
  exact ⟨rfl, hb⟩
theorem cat_str {a b : List UInt8} : (ByteArray.mk a.toArray) ++ (ByteArray.mk b.toArray) = ByteArray.mk (a ++ b).toArray := by
  apply ByteArray.ext
  apply Array.toList_inj.1
  simp [ByteArray.data_append]
theorem cat_any {a : List UInt8} {b : ByteArray} : (ByteArray.mk a.toArray) ++ b = ByteArray.mk (a ++ b.data.toList).toArray := by
  apply ByteArray.ext
  apply Array.toList_inj.1
  simp [ByteArray.data_append]
/-- What the last entry's loads read. -/
structure Sq (w W : World) (q : Addr) (u : M) : Prop where
  c6 : W.cell? ⟨q.block, q.off + 6, none⟩ = some (.string u.pfx)
  c7 : W.cell? ⟨q.block, q.off + 7, none⟩ = some (.int .i64 u.plen)
  c8 : W.cell? ⟨q.block, q.off + 8, none⟩ = some (.int .i64 u.tag)
  c10 : W.cell? ⟨q.block, q.off + 10, none⟩ = some (.int .i64 u.metric)
  blk : q.block < W.heap.size
  bel : Below w.heap.size w W
theorem Sq.call {w W w' : World} {q : Addr} {u : M} (h : Sq w W q u) (hb : Below W.heap.size W w') : Sq w w' q u :=
  ⟨(hb.cell (p := ⟨q.block, q.off + 6, none⟩) h.blk).trans h.c6, (hb.cell (p := ⟨q.block, q.off + 7, none⟩) h.blk).trans h.c7, (hb.cell (p := ⟨q.block, q.off + 8, none⟩) h.blk).trans h.c8, (hb.cell (p := ⟨q.block, q.off + 10, none⟩) h.blk).trans h.c10, Nat.lt_of_lt_of_le h.blk hb.size, h.bel.trans (hb.mono h.bel.size)⟩
theorem heldQ {P : Program} {f : Nat} {args : Array Value} {v : Ending} {w W : World} {q : Addr} {u : M} (h : Calls P f args W fun e w' => e = v ∧ Below W.heap.size W w') (hS : Sq w W q u) : Calls P f args W fun e w' => e = v ∧ Sq w w' q u :=
  h.mono fun _ _ ⟨he, hb⟩ => ⟨he, hS.call hb⟩

set_option maxHeartbeats 25600000 in
theorem rencode_any (a : Option Addr) (c : Nat) (l : List M) (w : World) (hl : MRow w a l) (hs : ∀ m ∈ l, Short m) (hn : l.length ≤ 1000) :
    Calls Try.prog 15 #[.slice a l.length c] w (AnsE (enc l) w) := by
  have HMr := Lib.hid (fun (W : World) (h : Below w.heap.size w W) => hl.below h)
  have HSh := Lib.hid hs
  clear hs hl
  go_enter Try.func15, Try.ntmps15
  go_upto_region 2 with fail
  go_loopw [5] (fun i wr => ∃ k : Nat, k ≤ l.length ∧ i = .int .i64 k ∧ Hid (∀ i, i < k → ckW l i = 0) ∧ Hid (Below w.heap.size w wr)) (fun i _ => l.length - (intOf i).toNat)
  case atStart => exact ⟨0, Nat.zero_le _, rfl, Lib.hid (fun i hi => absurd hi (by omega)), Lib.hid (Below.refl _ _)⟩
  case round =>
    obtain ⟨k, hk, rfl, HT, HB⟩ := hrel
    by_cases hlt : k < l.length
    · have hrow := HMr.out _ HB.out
      have hin := row_in hrow HSh.out hlt
      obtain ⟨p, rfl, _, hc, _, _⟩ := hrow k hlt
      have P := Lib.hid (Rn.rright_any l[k] wr hin)
      have HI := Lib.hid (fun (h : ckW l k ≠ 0) => enc_wrong hlt HT.out h)
      have HJ := Lib.hid (fun (h : ckW l k = 0) => show ∀ i, i < k + 1 → ckW l i = 0 from fun i hi => by
        by_cases hik : i < k
        · exact HT.out i hik
        · obtain rfl : i = k := by omega
          exact h)
      have HR := Lib.hid (show ckW l k = if rightB l[k] then 0 else 1 by unfold ckW; rw [at0_eq l k hlt])
      have HC := Lib.hid hc
      have ixk := indexM p l.length c k hlt
      clear hrow hin hc HT
      generalize l[k] = u at *
      generalize rightB u = x at *
      cases x
      · have HZ := Lib.hid (HI.out (by rw [HR.out]; decide))
        clear HI HJ HR
        go_wp2_with (first | (refine wpList_loadA (m := u) rfl _ rfl rfl HC.out ?_))
        refine P.out.mono ?_
        rintro e w1 ⟨rfl, hb1⟩
        go_wp2
        go_ret3
        exact AnsE.of HZ.out (bcall HB.out hb1)
      · have HZ := Lib.hid (HJ.out HR.out)
        clear HI HJ HR
        go_wp2_with (first | (refine wpList_loadA (m := u) rfl _ rfl rfl HC.out ?_))
        refine P.out.mono ?_
        rintro e w1 ⟨rfl, hb1⟩
        have HB1 := Lib.hid (bcall HB.out hb1)
        clear hb1
        go_wp2
        go_roundw
        case rel => exact ⟨k + 1, hlt, by go_num, HZ, HB1⟩
        case measure => simp [intOf]; omega
    obtain rfl : k = l.length := by omega
    clear hk
    rcases (show l.length = 0 ∨ 0 < l.length by omega) with h0 | h0
    · have HZ := Lib.hid (enc_none h0)
      have e1 : ((l.length : Int) == 0) = true := by rw [beq_iff_eq]; omega
      clear h0
      go_wp2
      go_ret3
      exact AnsE.of HZ.out HB.out
    have e1 : ((l.length : Int) == 0) = false := by rw [beq_eq_false_iff_ne]; omega
    have HW := Lib.hid HT.out
    have HRi := Lib.hid (all_right HT.out)
    have hrow := HMr.out _ HB.out
    obtain ⟨p, rfl, hpb, hc0, _, _⟩ := hrow 0 h0
    have ix0 := indexM p l.length c 0 h0
    have cm : wr.cell? ⟨p.block, p.off + 1, none⟩ = some (.int .i64 (at0 l 0).cmd) := hc0 1 (.int .i64 (at0 l 0).cmd) (by rw [← at0_eq l 0 h0]; rfl)
    have HC0 : Hid (∀ W, Below w.heap.size w W → W.cell? ⟨p.block, p.off + 1, none⟩ = some (.int .i64 (at0 l 0).cmd)) := Lib.hid (fun W h => by
      obtain ⟨p2, hp2, _, hc2, _, _⟩ := HMr.out W h 0 h0
      obtain rfl : p = p2 := by simpa using hp2
      exact hc2 1 (.int .i64 (at0 l 0).cmd) (by rw [← at0_eq l 0 h0]; rfl))
    have HEN := Lib.hid (fun (k : Nat) (hk : k < l.length) (h : ∀ i, i < k → ckC l i = 0) (hn : ckC l k ≠ 0) => enc_apart HW.out hk h hn)
    have HEO := Lib.hid (fun (h : ∀ i, i < l.length → ckC l i = 0) => enc_ok HW.out (by omega) h)
    have HBA := Lib.hid (bs_all l)
    have HCC := Lib.hid (fun k (hk : k < l.length) => show ckC l k = if l[k].cmd = (at0 l 0).cmd then 0 else 7 by unfold ckC; rw [at0_eq l k hk])
    have HBZ := Lib.hid (show bsK l 0 = Rte.layN (at0 l 0).cmd 1 ++ [1, 0, 0] from bs_zero l)
    have HLZ := Lib.hid (la_zero l)
    clear hrow HT HW hpb hc0
    generalize (at0 l 0).cmd = cc at *
    have PO := Lib.hid (fun W => of_any cc 1 1 rfl (by omega) (by omega) W)
    have HL1 := Lib.hid (Rte.layN_len cc 1)
    generalize Rte.layN cc 1 = t1 at *
    go_wp2_with fail
    refine (PO.out _).mono ?_
    rintro e w1 ⟨rfl, hb⟩
    have HB := Lib.hid (bcall HB.out hb)
    clear hb cm
    have z1 : (ByteArray.mk t1.toArray).size ≤ 1 := by have := HL1.out; show t1.toArray.size ≤ 1; simpa using this
    have z0 : t1.length ≤ 1 := HL1.out
    have z3 : ByteArray.mk t1.toArray ++ ⟨#[1, 0, 0]⟩ = ByteArray.mk (bsK l 0).toArray := by rw [HBZ.out, ← cat_str]
    go_upto_region 9 with fail
    clear z0 z1 z3 HL1 HBZ PO e1
    have PN := Lib.hid (fun W => none_any W)
    rw [← HLZ.out] at PN
    clear HLZ
    go_wp2_with fail
    refine (PN.out _).mono ?_
    rintro e w2 ⟨rfl, hb⟩
    have HB := Lib.hid (bcall HB.out hb)
    clear hb PN
    go_upto_region 10 with fail
    go_wp2
    go_loopw [6, 7, 8] (fun s nx i wr => ∃ k : Nat, k ≤ l.length ∧ i = .int .i64 k ∧ s = .string ⟨(bsK l k).toArray⟩ ∧ nx = .string (laK l k) ∧ Hid (Below w.heap.size w wr) ∧ Hid (∀ i, i < k → ckC l i = 0)) (fun _ _ i _ => l.length - (intOf i).toNat)
    case atStart => exact ⟨0, Nat.zero_le _, rfl, rfl, rfl, HB, Lib.hid (fun i hi => absurd hi (by omega))⟩
    case round =>
      obtain ⟨k, hk, rfl, rfl, rfl, HQ, HK⟩ := hrel
      clear HB
      by_cases hlt : k < l.length
      · obtain ⟨p2, hp2, hpb, hc, _, _⟩ := HMr.out _ HQ.out k hlt
        obtain rfl : p = p2 := by simpa using hp2
        have HN := Lib.hid (HEN.out k hlt HK.out)
        have HJ := Lib.hid (fun (h : ckC l k = 0) => show ∀ i, i < k + 1 → ckC l i = 0 from fun i hi => by
          by_cases hik : i < k
          · exact HK.out i hik
          · obtain rfl : i = k := by omega
            exact h)
        have hru := HRi.out _ (List.getElem_mem hlt)
        have H7 := Lib.hid (HCC.out k hlt)
        have PH := Lib.hid (fun W => Rte.rput_any (hopE l[k].next) W (ok_hop hru))
        have PE := Lib.hid (fun W => Rte.rput_any (entM l[k]) W (ok_ent hru))
        have HBs := Lib.hid (bs_succ l k hlt)
        have HLa := Lib.hid (la_succ l k hlt)
        have HLn := Lib.hid (bs_len l k (by omega))
        have HE := Lib.hid (show entsM (laK l k) l[k] = (if l[k].next = laK l k then [] else [hopE l[k].next]) ++ [entM l[k]] from rfl)
        have HP1 := Lib.hid (show putL (hopE l[k].next) = (Rte.putE (hopE l[k].next)).data.toList ∧ (putL (hopE l[k].next)).length ≤ 20 from ⟨rfl, putL_len _⟩)
        have HP2 := Lib.hid (show putL (entM l[k]) = (Rte.putE (entM l[k])).data.toList ∧ (putL (entM l[k])).length ≤ 20 from ⟨rfl, putL_len _⟩)
        have ixk := indexM p l.length c k hlt
        have HCk := Lib.hid hc
        have HPb := Lib.hid (show (p.add (k * 25)).block < wr.heap.size by rw [add_block]; exact hpb)
        clear hc hk hp2 hru hpb HK
        generalize l[k] = u at *
        generalize p.add (k * 25) = q at *
        have hcell : ∀ W, Below wr.heap.size wr W → ∀ j v, (u.cells.toList)[j]? = some v → W.cell? (q.add j) = some v := fun W h j v hv => (h.cell (p := q.add j) (by rw [add_block]; exact HPb.out)).trans (HCk.out j v hv)
        have HCl := Lib.hid hcell
        clear hcell
        have c1 : wr.cell? ⟨q.block, q.off + 1, none⟩ = some (.int .i64 u.cmd) := HCk.out 1 _ rfl
        have d1 := HC0.out wr HQ.out
        go_upto_region 13 with fail
        by_cases hcc : u.cmd = cc
        rotate_left
        · have h7 : ckC l k = 7 := by rw [H7.out, if_neg hcc]
          have HZ := Lib.hid (HN.out (by rw [h7]; decide))
          have e1 : (u.cmd == cc) = false := by simpa using hcc
          have e2 : (u.cmd != cc) = true := by rw [bne, e1]; rfl
          clear hcc h7 HN HJ
          go_region
          go_wp2
          go_ret3
          exact AnsE.of HZ.out HQ.out.drew
        have HK1 := Lib.hid (HJ.out (by rw [H7.out, if_pos hcc]))
        have e1 : (u.cmd == cc) = true := by simpa using hcc
        have e2 : (u.cmd != cc) = false := by rw [bne, e1]; rfl
        clear hcc H7 HN HJ
        go_region
        clear e1 e2 c1 d1
        have HQ := Lib.hid (show Below w.heap.size w wr.drew from HQ.out.drew)
        have HB3 := Lib.hid (show Below wr.heap.size wr wr.drew from (Below.refl _ _).drew)
        have HLa2 := Lib.hid HLa.out
        generalize hla : laK l k = la at *
        clear hla
        generalize hbs : bsK l k = bs at *
        clear hbs
        generalize wr.drew = V at *
        have c9 : V.cell? ⟨q.block, q.off + 9, none⟩ = some (.string u.next) := HCl.out V HB3.out 9 _ rfl
        go_upto_region 15 with fail
        by_cases hnx : u.next = la
        · have e1 : (u.next.toList == la.toList) = true := by rw [hnx]; exact beq_self_eq_true _
          have e2 : (u.next.toList != la.toList) = false := by rw [bne, e1]; rfl
          have HBs := Lib.hid (show bsK l (k + 1) = bs ++ putL (entM u) by rw [HBs.out, HE.out, if_pos hnx]; simp)
          have HNx := Lib.hid hnx.symm
          have HLn := Lib.hid (show bs.length ≤ 60000 by have := HLn.out; omega)
          have HB9 := Lib.hid HB3.out
          clear hnx HE PH HP1
          go_upto_region 19 with fail
          rw [HNx.out]
          clear e1 e2 c9 HNx
          have hq : Sq w V.drew q u := by
            have hd : Below wr.heap.size wr V.drew := HB9.out.drew
            exact ⟨HCl.out _ hd 6 _ rfl, HCl.out _ hd 7 _ rfl, HCl.out _ hd 8 _ rfl, HCl.out _ hd 10 _ rfl, Nat.lt_of_lt_of_le HPb.out hd.size, HQ.out.drew⟩
          have HQ0 := Lib.hid hq
          have PE1 := Lib.hid (fun W (h : Sq w W q u) => heldQ (PE.out W) h)
          have z1 : (ByteArray.mk bs.toArray).size ≤ 60000 := by have := HLn.out; show bs.toArray.size ≤ 60000; simp only [List.size_toArray]; omega
          have z0 : bs.length ≤ 60000 := HLn.out
          have z2 : (Rte.putE (entM u)).size ≤ 20 := by have h2 := HP2.out.2; rw [HP2.out.1] at h2; simpa using h2
          have HEq : Hid (ByteArray.mk bs.toArray ++ Rte.putE (entM u) = ByteArray.mk (bsK l (k + 1)).toArray) := Lib.hid (by rw [cat_any, HBs.out, HP2.out.1])
          clear hq PE HQ HBs HP2
          generalize Rte.putE (entM u) = sh2 at *
          generalize Rte.okE (entM u) = sk2 at *
          refine wp_region_held_drew (S := fun W => Sq w W q u) (by kernel_rfl) HQ0.out (fun hS => ?_)
          clear HQ0
          generalize V.drew = w0 at *
          refine H.take (i := 0) (v := ?v0_1) (by simp only [List.getElem?_toArray, List.getElem?_cons_zero]; rfl) (by kernel_rfl) rfl (by kernel_rfl) (by kernel_rfl) (by kernel_rfl) (fun _ _ _ h => h) ?h0_1 hS ?_
          case h0_1 => (intro w hw; go_simp; first | done | (with_reducible rfl))
          try simp only [Act.put, List.setIfInBounds_toArray, List.set_cons_zero, List.set_cons_succ]
          refine H.take (i := 1) (v := ?v1_1) (by simp only [List.getElem?_toArray, List.getElem?_cons_succ, List.getElem?_cons_zero]; rfl) (by kernel_rfl) rfl (by kernel_rfl) (by kernel_rfl) (by kernel_rfl) (fun _ _ _ h => h) ?h1_1 hS ?_
          case h1_1 => (intro w hw; go_simp; first | done | (with_reducible rfl))
          try simp only [Act.put, List.setIfInBounds_toArray, List.set_cons_zero, List.set_cons_succ]
          refine H.take (i := 2) (v := .pointer (some q)) (by simp only [List.getElem?_toArray, List.getElem?_cons_succ, List.getElem?_cons_zero]; rfl) (by kernel_rfl) rfl (by kernel_rfl) (by kernel_rfl) (by kernel_rfl) (fun _ _ _ h => h) ?h2_1 hS ?_
          case h2_1 => exact (by intro w hw; go_simp)
          try simp only [Act.put, List.setIfInBounds_toArray, List.set_cons_zero, List.set_cons_succ]
          refine H.take (i := 3) (v := ?v3_1) (by simp only [List.getElem?_toArray, List.getElem?_cons_succ, List.getElem?_cons_zero]; rfl) (by kernel_rfl) rfl (by kernel_rfl) (by kernel_rfl) (by kernel_rfl) (fun _ _ _ h => h) ?h3_1 hS ?_
          case h3_1 => (intro w hw; go_simp; first | done | (with_reducible rfl))
          try simp only [Act.put, List.setIfInBounds_toArray, List.set_cons_zero, List.set_cons_succ]
          refine H.take (i := 4) (v := ?v4_1) (by simp only [List.getElem?_toArray, List.getElem?_cons_succ, List.getElem?_cons_zero]; rfl) (by kernel_rfl) rfl (by kernel_rfl) (by kernel_rfl) (by kernel_rfl) (fun _ _ _ h => h) ?h4_1 hS ?_
          case h4_1 => (intro w hw; have c := hw.c6; go_simp; first | done | (with_reducible rfl))
          try simp only [Act.put, List.setIfInBounds_toArray, List.set_cons_zero, List.set_cons_succ]
          refine H.take (i := 5) (v := ?v5_1) (by simp only [List.getElem?_toArray, List.getElem?_cons_succ, List.getElem?_cons_zero]; rfl) (by kernel_rfl) rfl (by kernel_rfl) (by kernel_rfl) (by kernel_rfl) (fun _ _ _ h => h) ?h5_1 hS ?_
          case h5_1 => (intro w hw; go_simp; first | done | (with_reducible rfl))
          try simp only [Act.put, List.setIfInBounds_toArray, List.set_cons_zero, List.set_cons_succ]
          refine H.take (i := 6) (v := ?v6_1) (by simp only [List.getElem?_toArray, List.getElem?_cons_succ, List.getElem?_cons_zero]; rfl) (by kernel_rfl) rfl (by kernel_rfl) (by kernel_rfl) (by kernel_rfl) (fun _ _ _ h => h) ?h6_1 hS ?_
          case h6_1 => (intro w hw; go_simp; first | done | (with_reducible rfl))
          try simp only [Act.put, List.setIfInBounds_toArray, List.set_cons_zero, List.set_cons_succ]
          refine H.take (i := 7) (v := .pointer (some q)) (by simp only [List.getElem?_toArray, List.getElem?_cons_succ, List.getElem?_cons_zero]; rfl) (by kernel_rfl) rfl (by kernel_rfl) (by kernel_rfl) (by kernel_rfl) (fun _ _ _ h => h) ?h7_1 hS ?_
          case h7_1 => exact (by intro w hw; go_simp)
          try simp only [Act.put, List.setIfInBounds_toArray, List.set_cons_zero, List.set_cons_succ]
          refine H.take (i := 8) (v := ?v8_1) (by simp only [List.getElem?_toArray, List.getElem?_cons_succ, List.getElem?_cons_zero]; rfl) (by kernel_rfl) rfl (by kernel_rfl) (by kernel_rfl) (by kernel_rfl) (fun _ _ _ h => h) ?h8_1 hS ?_
          case h8_1 => (intro w hw; go_simp; first | done | (with_reducible rfl))
          try simp only [Act.put, List.setIfInBounds_toArray, List.set_cons_zero, List.set_cons_succ]
          refine H.take (i := 9) (v := ?v9_1) (by simp only [List.getElem?_toArray, List.getElem?_cons_succ, List.getElem?_cons_zero]; rfl) (by kernel_rfl) rfl (by kernel_rfl) (by kernel_rfl) (by kernel_rfl) (fun _ _ _ h => h) ?h9_1 hS ?_
          case h9_1 => (intro w hw; have c := hw.c8; go_simp; first | done | (with_reducible rfl))
          try simp only [Act.put, List.setIfInBounds_toArray, List.set_cons_zero, List.set_cons_succ]
          refine H.take (i := 10) (v := ?v10_1) (by simp only [List.getElem?_toArray, List.getElem?_cons_succ, List.getElem?_cons_zero]; rfl) (by kernel_rfl) rfl (by kernel_rfl) (by kernel_rfl) (by kernel_rfl) (fun _ _ _ h => h) ?h10_1 hS ?_
          case h10_1 => (intro w hw; go_simp; first | done | (with_reducible rfl))
          try simp only [Act.put, List.setIfInBounds_toArray, List.set_cons_zero, List.set_cons_succ]
          refine H.take (i := 11) (v := ?v11_1) (by simp only [List.getElem?_toArray, List.getElem?_cons_succ, List.getElem?_cons_zero]; rfl) (by kernel_rfl) rfl (by kernel_rfl) (by kernel_rfl) (by kernel_rfl) (fun _ _ _ h => h) ?h11_1 hS ?_
          case h11_1 => (intro w hw; go_simp; first | done | (with_reducible rfl))
          try simp only [Act.put, List.setIfInBounds_toArray, List.set_cons_zero, List.set_cons_succ]
          refine H.take (i := 12) (v := .pointer (some q)) (by simp only [List.getElem?_toArray, List.getElem?_cons_succ, List.getElem?_cons_zero]; rfl) (by kernel_rfl) rfl (by kernel_rfl) (by kernel_rfl) (by kernel_rfl) (fun _ _ _ h => h) ?h12_1 hS ?_
          case h12_1 => exact (by intro w hw; go_simp)
          try simp only [Act.put, List.setIfInBounds_toArray, List.set_cons_zero, List.set_cons_succ]
          refine H.take (i := 13) (v := ?v13_1) (by simp only [List.getElem?_toArray, List.getElem?_cons_succ, List.getElem?_cons_zero]; rfl) (by kernel_rfl) rfl (by kernel_rfl) (by kernel_rfl) (by kernel_rfl) (fun _ _ _ h => h) ?h13_1 hS ?_
          case h13_1 => (intro w hw; go_simp; first | done | (with_reducible rfl))
          try simp only [Act.put, List.setIfInBounds_toArray, List.set_cons_zero, List.set_cons_succ]
          refine H.take (i := 14) (v := ?v14_1) (by simp only [List.getElem?_toArray, List.getElem?_cons_succ, List.getElem?_cons_zero]; rfl) (by kernel_rfl) rfl (by kernel_rfl) (by kernel_rfl) (by kernel_rfl) (fun _ _ _ h => h) ?h14_1 hS ?_
          case h14_1 => (intro w hw; have c := hw.c7; go_simp; first | done | (with_reducible rfl))
          try simp only [Act.put, List.setIfInBounds_toArray, List.set_cons_zero, List.set_cons_succ]
          refine H.take (i := 15) (v := ?v15_1) (by simp only [List.getElem?_toArray, List.getElem?_cons_succ, List.getElem?_cons_zero]; rfl) (by kernel_rfl) rfl (by kernel_rfl) (by kernel_rfl) (by kernel_rfl) (fun _ _ _ h => h) ?h15_1 hS ?_
          case h15_1 => (intro w hw; go_simp; first | done | (with_reducible rfl))
          try simp only [Act.put, List.setIfInBounds_toArray, List.set_cons_zero, List.set_cons_succ]
          refine H.take (i := 16) (v := ?v16_1) (by simp only [List.getElem?_toArray, List.getElem?_cons_succ, List.getElem?_cons_zero]; rfl) (by kernel_rfl) rfl (by kernel_rfl) (by kernel_rfl) (by kernel_rfl) (fun _ _ _ h => h) ?h16_1 hS ?_
          case h16_1 => (intro w hw; go_simp; first | done | (with_reducible rfl))
          try simp only [Act.put, List.setIfInBounds_toArray, List.set_cons_zero, List.set_cons_succ]
          refine H.take (i := 17) (v := .pointer (some q)) (by simp only [List.getElem?_toArray, List.getElem?_cons_succ, List.getElem?_cons_zero]; rfl) (by kernel_rfl) rfl (by kernel_rfl) (by kernel_rfl) (by kernel_rfl) (fun _ _ _ h => h) ?h17_1 hS ?_
          case h17_1 => exact (by intro w hw; go_simp)
          try simp only [Act.put, List.setIfInBounds_toArray, List.set_cons_zero, List.set_cons_succ]
          refine H.take (i := 18) (v := ?v18_1) (by simp only [List.getElem?_toArray, List.getElem?_cons_succ, List.getElem?_cons_zero]; rfl) (by kernel_rfl) rfl (by kernel_rfl) (by kernel_rfl) (by kernel_rfl) (fun _ _ _ h => h) ?h18_1 hS ?_
          case h18_1 => (intro w hw; go_simp; first | done | (with_reducible rfl))
          try simp only [Act.put, List.setIfInBounds_toArray, List.set_cons_zero, List.set_cons_succ]
          refine H.take (i := 19) (v := ?v19_1) (by simp only [List.getElem?_toArray, List.getElem?_cons_succ, List.getElem?_cons_zero]; rfl) (by kernel_rfl) rfl (by kernel_rfl) (by kernel_rfl) (by kernel_rfl) (fun _ _ _ h => h) ?h19_1 hS ?_
          case h19_1 => (intro w hw; have c := hw.c10; go_simp; first | done | (with_reducible rfl))
          try simp only [Act.put, List.setIfInBounds_toArray, List.set_cons_zero, List.set_cons_succ]
          refine H.take (i := 20) (v := .agg (E.cells (entM u))) (by simp only [List.getElem?_toArray, List.getElem?_cons_succ, List.getElem?_cons_zero]; rfl) (by kernel_rfl) rfl (by kernel_rfl) (by kernel_rfl) (by kernel_rfl) (fun _ _ _ h => h) ?h20_1 hS ?_
          case h20_1 => exact (fun w hw => ex_built rfl (by kernel_rfl))
          try simp only [Act.put, List.setIfInBounds_toArray, List.set_cons_zero, List.set_cons_succ]
          refine wpAnyH_ready (rs := [21]) (by kernel_rfl) (by simp) ?_
          refine AllReadyH.cons rfl (fun K hK => ?_) AllReadyH.nil
          go_simp
          refine (PE1.out _ hS).mono ?_
          rintro e w21 ⟨rfl, hS21⟩
          refine hK.out _ _ hS21 (fun _ => ?_)
          clear hK K hS
          have hS := hS21
          clear hS21
          try simp only [Act.put, List.setIfInBounds_toArray, List.set_cons_zero, List.set_cons_succ]
          refine H.take (i := 22) (v := ?v22_1) (by simp only [List.getElem?_toArray, List.getElem?_cons_succ, List.getElem?_cons_zero]; rfl) (by kernel_rfl) rfl (by kernel_rfl) (by kernel_rfl) (by kernel_rfl) (fun _ _ _ h => h) ?h22_1 hS ?_
          case h22_1 => (intro w hw; go_simp; first | done | (with_reducible rfl))
          try simp only [Act.put, List.setIfInBounds_toArray, List.set_cons_zero, List.set_cons_succ]
          refine H.take (i := 23) (v := ?v23_1) (by simp only [List.getElem?_toArray, List.getElem?_cons_succ, List.getElem?_cons_zero]; rfl) (by kernel_rfl) rfl (by kernel_rfl) (by kernel_rfl) (by kernel_rfl) (fun _ _ _ h => h) ?h23_1 hS ?_
          case h23_1 => (intro w hw; go_simp; first | done | (with_reducible rfl))
          try simp only [Act.put, List.setIfInBounds_toArray, List.set_cons_zero, List.set_cons_succ]
          refine H.take (i := 24) (v := ?v24_1) (by simp only [List.getElem?_toArray, List.getElem?_cons_succ, List.getElem?_cons_zero]; rfl) (by kernel_rfl) rfl (by kernel_rfl) (by kernel_rfl) (by kernel_rfl) (fun _ _ _ h => h) ?h24_1 hS ?_
          case h24_1 => (intro w hw; go_simp; first | done | (with_reducible rfl))
          try simp only [Act.put, List.setIfInBounds_toArray, List.set_cons_zero, List.set_cons_succ]
          refine H.take (i := 25) (v := ?v25_1) (by simp only [List.getElem?_toArray, List.getElem?_cons_succ, List.getElem?_cons_zero]; rfl) (by kernel_rfl) rfl (by kernel_rfl) (by kernel_rfl) (by kernel_rfl) (fun _ _ _ h => h) ?h25_1 hS ?_
          case h25_1 => (intro w hw; go_simp; first | done | (with_reducible rfl))
          try simp only [Act.put, List.setIfInBounds_toArray, List.set_cons_zero, List.set_cons_succ]
          refine H.take (i := 26) (v := ?v26_1) (by simp only [List.getElem?_toArray, List.getElem?_cons_succ, List.getElem?_cons_zero]; rfl) (by kernel_rfl) rfl (by kernel_rfl) (by kernel_rfl) (by kernel_rfl) (fun _ _ _ h => h) ?h26_1 hS ?_
          case h26_1 => (intro w hw; go_simp; first | done | (with_reducible rfl))
          try simp only [Act.put, List.setIfInBounds_toArray, List.set_cons_zero, List.set_cons_succ]
          refine wpAnyH_done (by kernel_rfl) ?_ _
          have HQ := Lib.hid hS.bel
          clear hS PE1
          clear ixk
          go_wp2
          rw [HEq.out]
          clear z0 z1 z2 HEq
          go_roundw
          case rel => exact ⟨k + 1, hlt, by go_num, rfl, by rw [HLa.out], HQ, HK1⟩
          case measure => simp [intOf]; omega
        · have e1 : (u.next.toList == la.toList) = false := by
            rw [beq_eq_false_iff_ne]
            intro h
            rw [ByteArray.toList_eq, ByteArray.toList_eq] at h
            exact hnx (Rte.text_eq h)
          have e2 : (u.next.toList != la.toList) = true := by rw [bne, e1]; rfl
          have HBs := Lib.hid (show bsK l (k + 1) = (bs ++ putL (hopE u.next)) ++ putL (entM u) by rw [HBs.out, HE.out, if_neg hnx]; simp)
          clear hnx HE
          go_wp2_with (first | (refine wpList_builtK rfl 45 _ rfl (hopE u.next).cells (by kernel_rfl) ?_))
          refine (PH.out _).mono ?_
          rintro e w5 ⟨rfl, hb⟩
          have HQ := Lib.hid (HQ.out.trans (hb.mono HQ.out.size))
          have HB9 := Lib.hid (HB3.out.trans (hb.mono HB3.out.size))
          clear hb c9 e1 e2 PH HB3
          have z1 : (ByteArray.mk bs.toArray).size ≤ 50000 := by have := HLn.out; show bs.toArray.size ≤ 50000; simp only [List.size_toArray]; omega
          have z0 : bs.length ≤ 50000 := by have := HLn.out; omega
          have z2 : (Rte.putE (hopE u.next)).size ≤ 20 := by have h2 := HP1.out.2; rw [HP1.out.1] at h2; simpa using h2
          have HEq : Hid (ByteArray.mk bs.toArray ++ Rte.putE (hopE u.next) = ByteArray.mk (bs ++ putL (hopE u.next)).toArray) := Lib.hid (by rw [cat_any, HP1.out.1])
          have HLn := Lib.hid (show (bs ++ putL (hopE u.next)).length ≤ 60000 by have := HP1.out.2; rw [List.length_append]; omega)
          clear HP1
          generalize Rte.putE (hopE u.next) = sh at *
          generalize Rte.okE (hopE u.next) = sk at *
          generalize putL (hopE u.next) = sl at *
          go_upto_region 19 with fail
          rw [HEq.out]
          clear z0 z1 z2 HEq
          generalize bs ++ sl = bs at *
          generalize w5 = V at *
          have hq : Sq w V.drew q u := by
            have hd : Below wr.heap.size wr V.drew := HB9.out.drew
            exact ⟨HCl.out _ hd 6 _ rfl, HCl.out _ hd 7 _ rfl, HCl.out _ hd 8 _ rfl, HCl.out _ hd 10 _ rfl, Nat.lt_of_lt_of_le HPb.out hd.size, HQ.out.drew⟩
          have HQ0 := Lib.hid hq
          have PE1 := Lib.hid (fun W (h : Sq w W q u) => heldQ (PE.out W) h)
          have z1 : (ByteArray.mk bs.toArray).size ≤ 60000 := by have := HLn.out; show bs.toArray.size ≤ 60000; simp only [List.size_toArray]; omega
          have z0 : bs.length ≤ 60000 := HLn.out
          have z2 : (Rte.putE (entM u)).size ≤ 20 := by have h2 := HP2.out.2; rw [HP2.out.1] at h2; simpa using h2
          have HEq : Hid (ByteArray.mk bs.toArray ++ Rte.putE (entM u) = ByteArray.mk (bsK l (k + 1)).toArray) := Lib.hid (by rw [cat_any, HBs.out, HP2.out.1])
          clear hq PE HQ HBs HP2
          generalize Rte.putE (entM u) = sh2 at *
          generalize Rte.okE (entM u) = sk2 at *
          refine wp_region_held_drew (S := fun W => Sq w W q u) (by kernel_rfl) HQ0.out (fun hS => ?_)
          clear HQ0
          generalize V.drew = w0 at *
          refine H.take (i := 0) (v := ?v0_2) (by simp only [List.getElem?_toArray, List.getElem?_cons_zero]; rfl) (by kernel_rfl) rfl (by kernel_rfl) (by kernel_rfl) (by kernel_rfl) (fun _ _ _ h => h) ?h0_2 hS ?_
          case h0_2 => (intro w hw; go_simp; first | done | (with_reducible rfl))
          try simp only [Act.put, List.setIfInBounds_toArray, List.set_cons_zero, List.set_cons_succ]
          refine H.take (i := 1) (v := ?v1_2) (by simp only [List.getElem?_toArray, List.getElem?_cons_succ, List.getElem?_cons_zero]; rfl) (by kernel_rfl) rfl (by kernel_rfl) (by kernel_rfl) (by kernel_rfl) (fun _ _ _ h => h) ?h1_2 hS ?_
          case h1_2 => (intro w hw; go_simp; first | done | (with_reducible rfl))
          try simp only [Act.put, List.setIfInBounds_toArray, List.set_cons_zero, List.set_cons_succ]
          refine H.take (i := 2) (v := .pointer (some q)) (by simp only [List.getElem?_toArray, List.getElem?_cons_succ, List.getElem?_cons_zero]; rfl) (by kernel_rfl) rfl (by kernel_rfl) (by kernel_rfl) (by kernel_rfl) (fun _ _ _ h => h) ?h2_2 hS ?_
          case h2_2 => exact (by intro w hw; go_simp)
          try simp only [Act.put, List.setIfInBounds_toArray, List.set_cons_zero, List.set_cons_succ]
          refine H.take (i := 3) (v := ?v3_2) (by simp only [List.getElem?_toArray, List.getElem?_cons_succ, List.getElem?_cons_zero]; rfl) (by kernel_rfl) rfl (by kernel_rfl) (by kernel_rfl) (by kernel_rfl) (fun _ _ _ h => h) ?h3_2 hS ?_
          case h3_2 => (intro w hw; go_simp; first | done | (with_reducible rfl))
          try simp only [Act.put, List.setIfInBounds_toArray, List.set_cons_zero, List.set_cons_succ]
          refine H.take (i := 4) (v := ?v4_2) (by simp only [List.getElem?_toArray, List.getElem?_cons_succ, List.getElem?_cons_zero]; rfl) (by kernel_rfl) rfl (by kernel_rfl) (by kernel_rfl) (by kernel_rfl) (fun _ _ _ h => h) ?h4_2 hS ?_
          case h4_2 => (intro w hw; have c := hw.c6; go_simp; first | done | (with_reducible rfl))
          try simp only [Act.put, List.setIfInBounds_toArray, List.set_cons_zero, List.set_cons_succ]
          refine H.take (i := 5) (v := ?v5_2) (by simp only [List.getElem?_toArray, List.getElem?_cons_succ, List.getElem?_cons_zero]; rfl) (by kernel_rfl) rfl (by kernel_rfl) (by kernel_rfl) (by kernel_rfl) (fun _ _ _ h => h) ?h5_2 hS ?_
          case h5_2 => (intro w hw; go_simp; first | done | (with_reducible rfl))
          try simp only [Act.put, List.setIfInBounds_toArray, List.set_cons_zero, List.set_cons_succ]
          refine H.take (i := 6) (v := ?v6_2) (by simp only [List.getElem?_toArray, List.getElem?_cons_succ, List.getElem?_cons_zero]; rfl) (by kernel_rfl) rfl (by kernel_rfl) (by kernel_rfl) (by kernel_rfl) (fun _ _ _ h => h) ?h6_2 hS ?_
          case h6_2 => (intro w hw; go_simp; first | done | (with_reducible rfl))
          try simp only [Act.put, List.setIfInBounds_toArray, List.set_cons_zero, List.set_cons_succ]
          refine H.take (i := 7) (v := .pointer (some q)) (by simp only [List.getElem?_toArray, List.getElem?_cons_succ, List.getElem?_cons_zero]; rfl) (by kernel_rfl) rfl (by kernel_rfl) (by kernel_rfl) (by kernel_rfl) (fun _ _ _ h => h) ?h7_2 hS ?_
          case h7_2 => exact (by intro w hw; go_simp)
          try simp only [Act.put, List.setIfInBounds_toArray, List.set_cons_zero, List.set_cons_succ]
          refine H.take (i := 8) (v := ?v8_2) (by simp only [List.getElem?_toArray, List.getElem?_cons_succ, List.getElem?_cons_zero]; rfl) (by kernel_rfl) rfl (by kernel_rfl) (by kernel_rfl) (by kernel_rfl) (fun _ _ _ h => h) ?h8_2 hS ?_
          case h8_2 => (intro w hw; go_simp; first | done | (with_reducible rfl))
          try simp only [Act.put, List.setIfInBounds_toArray, List.set_cons_zero, List.set_cons_succ]
          refine H.take (i := 9) (v := ?v9_2) (by simp only [List.getElem?_toArray, List.getElem?_cons_succ, List.getElem?_cons_zero]; rfl) (by kernel_rfl) rfl (by kernel_rfl) (by kernel_rfl) (by kernel_rfl) (fun _ _ _ h => h) ?h9_2 hS ?_
          case h9_2 => (intro w hw; have c := hw.c8; go_simp; first | done | (with_reducible rfl))
          try simp only [Act.put, List.setIfInBounds_toArray, List.set_cons_zero, List.set_cons_succ]
          refine H.take (i := 10) (v := ?v10_2) (by simp only [List.getElem?_toArray, List.getElem?_cons_succ, List.getElem?_cons_zero]; rfl) (by kernel_rfl) rfl (by kernel_rfl) (by kernel_rfl) (by kernel_rfl) (fun _ _ _ h => h) ?h10_2 hS ?_
          case h10_2 => (intro w hw; go_simp; first | done | (with_reducible rfl))
          try simp only [Act.put, List.setIfInBounds_toArray, List.set_cons_zero, List.set_cons_succ]
          refine H.take (i := 11) (v := ?v11_2) (by simp only [List.getElem?_toArray, List.getElem?_cons_succ, List.getElem?_cons_zero]; rfl) (by kernel_rfl) rfl (by kernel_rfl) (by kernel_rfl) (by kernel_rfl) (fun _ _ _ h => h) ?h11_2 hS ?_
          case h11_2 => (intro w hw; go_simp; first | done | (with_reducible rfl))
          try simp only [Act.put, List.setIfInBounds_toArray, List.set_cons_zero, List.set_cons_succ]
          refine H.take (i := 12) (v := .pointer (some q)) (by simp only [List.getElem?_toArray, List.getElem?_cons_succ, List.getElem?_cons_zero]; rfl) (by kernel_rfl) rfl (by kernel_rfl) (by kernel_rfl) (by kernel_rfl) (fun _ _ _ h => h) ?h12_2 hS ?_
          case h12_2 => exact (by intro w hw; go_simp)
          try simp only [Act.put, List.setIfInBounds_toArray, List.set_cons_zero, List.set_cons_succ]
          refine H.take (i := 13) (v := ?v13_2) (by simp only [List.getElem?_toArray, List.getElem?_cons_succ, List.getElem?_cons_zero]; rfl) (by kernel_rfl) rfl (by kernel_rfl) (by kernel_rfl) (by kernel_rfl) (fun _ _ _ h => h) ?h13_2 hS ?_
          case h13_2 => (intro w hw; go_simp; first | done | (with_reducible rfl))
          try simp only [Act.put, List.setIfInBounds_toArray, List.set_cons_zero, List.set_cons_succ]
          refine H.take (i := 14) (v := ?v14_2) (by simp only [List.getElem?_toArray, List.getElem?_cons_succ, List.getElem?_cons_zero]; rfl) (by kernel_rfl) rfl (by kernel_rfl) (by kernel_rfl) (by kernel_rfl) (fun _ _ _ h => h) ?h14_2 hS ?_
          case h14_2 => (intro w hw; have c := hw.c7; go_simp; first | done | (with_reducible rfl))
          try simp only [Act.put, List.setIfInBounds_toArray, List.set_cons_zero, List.set_cons_succ]
          refine H.take (i := 15) (v := ?v15_2) (by simp only [List.getElem?_toArray, List.getElem?_cons_succ, List.getElem?_cons_zero]; rfl) (by kernel_rfl) rfl (by kernel_rfl) (by kernel_rfl) (by kernel_rfl) (fun _ _ _ h => h) ?h15_2 hS ?_
          case h15_2 => (intro w hw; go_simp; first | done | (with_reducible rfl))
          try simp only [Act.put, List.setIfInBounds_toArray, List.set_cons_zero, List.set_cons_succ]
          refine H.take (i := 16) (v := ?v16_2) (by simp only [List.getElem?_toArray, List.getElem?_cons_succ, List.getElem?_cons_zero]; rfl) (by kernel_rfl) rfl (by kernel_rfl) (by kernel_rfl) (by kernel_rfl) (fun _ _ _ h => h) ?h16_2 hS ?_
          case h16_2 => (intro w hw; go_simp; first | done | (with_reducible rfl))
          try simp only [Act.put, List.setIfInBounds_toArray, List.set_cons_zero, List.set_cons_succ]
          refine H.take (i := 17) (v := .pointer (some q)) (by simp only [List.getElem?_toArray, List.getElem?_cons_succ, List.getElem?_cons_zero]; rfl) (by kernel_rfl) rfl (by kernel_rfl) (by kernel_rfl) (by kernel_rfl) (fun _ _ _ h => h) ?h17_2 hS ?_
          case h17_2 => exact (by intro w hw; go_simp)
          try simp only [Act.put, List.setIfInBounds_toArray, List.set_cons_zero, List.set_cons_succ]
          refine H.take (i := 18) (v := ?v18_2) (by simp only [List.getElem?_toArray, List.getElem?_cons_succ, List.getElem?_cons_zero]; rfl) (by kernel_rfl) rfl (by kernel_rfl) (by kernel_rfl) (by kernel_rfl) (fun _ _ _ h => h) ?h18_2 hS ?_
          case h18_2 => (intro w hw; go_simp; first | done | (with_reducible rfl))
          try simp only [Act.put, List.setIfInBounds_toArray, List.set_cons_zero, List.set_cons_succ]
          refine H.take (i := 19) (v := ?v19_2) (by simp only [List.getElem?_toArray, List.getElem?_cons_succ, List.getElem?_cons_zero]; rfl) (by kernel_rfl) rfl (by kernel_rfl) (by kernel_rfl) (by kernel_rfl) (fun _ _ _ h => h) ?h19_2 hS ?_
          case h19_2 => (intro w hw; have c := hw.c10; go_simp; first | done | (with_reducible rfl))
          try simp only [Act.put, List.setIfInBounds_toArray, List.set_cons_zero, List.set_cons_succ]
          refine H.take (i := 20) (v := .agg (E.cells (entM u))) (by simp only [List.getElem?_toArray, List.getElem?_cons_succ, List.getElem?_cons_zero]; rfl) (by kernel_rfl) rfl (by kernel_rfl) (by kernel_rfl) (by kernel_rfl) (fun _ _ _ h => h) ?h20_2 hS ?_
          case h20_2 => exact (fun w hw => ex_built rfl (by kernel_rfl))
          try simp only [Act.put, List.setIfInBounds_toArray, List.set_cons_zero, List.set_cons_succ]
          refine wpAnyH_ready (rs := [21]) (by kernel_rfl) (by simp) ?_
          refine AllReadyH.cons rfl (fun K hK => ?_) AllReadyH.nil
          go_simp
          refine (PE1.out _ hS).mono ?_
          rintro e w21 ⟨rfl, hS21⟩
          refine hK.out _ _ hS21 (fun _ => ?_)
          clear hK K hS
          have hS := hS21
          clear hS21
          try simp only [Act.put, List.setIfInBounds_toArray, List.set_cons_zero, List.set_cons_succ]
          refine H.take (i := 22) (v := ?v22_2) (by simp only [List.getElem?_toArray, List.getElem?_cons_succ, List.getElem?_cons_zero]; rfl) (by kernel_rfl) rfl (by kernel_rfl) (by kernel_rfl) (by kernel_rfl) (fun _ _ _ h => h) ?h22_2 hS ?_
          case h22_2 => (intro w hw; go_simp; first | done | (with_reducible rfl))
          try simp only [Act.put, List.setIfInBounds_toArray, List.set_cons_zero, List.set_cons_succ]
          refine H.take (i := 23) (v := ?v23_2) (by simp only [List.getElem?_toArray, List.getElem?_cons_succ, List.getElem?_cons_zero]; rfl) (by kernel_rfl) rfl (by kernel_rfl) (by kernel_rfl) (by kernel_rfl) (fun _ _ _ h => h) ?h23_2 hS ?_
          case h23_2 => (intro w hw; go_simp; first | done | (with_reducible rfl))
          try simp only [Act.put, List.setIfInBounds_toArray, List.set_cons_zero, List.set_cons_succ]
          refine H.take (i := 24) (v := ?v24_2) (by simp only [List.getElem?_toArray, List.getElem?_cons_succ, List.getElem?_cons_zero]; rfl) (by kernel_rfl) rfl (by kernel_rfl) (by kernel_rfl) (by kernel_rfl) (fun _ _ _ h => h) ?h24_2 hS ?_
          case h24_2 => (intro w hw; go_simp; first | done | (with_reducible rfl))
          try simp only [Act.put, List.setIfInBounds_toArray, List.set_cons_zero, List.set_cons_succ]
          refine H.take (i := 25) (v := ?v25_2) (by simp only [List.getElem?_toArray, List.getElem?_cons_succ, List.getElem?_cons_zero]; rfl) (by kernel_rfl) rfl (by kernel_rfl) (by kernel_rfl) (by kernel_rfl) (fun _ _ _ h => h) ?h25_2 hS ?_
          case h25_2 => (intro w hw; go_simp; first | done | (with_reducible rfl))
          try simp only [Act.put, List.setIfInBounds_toArray, List.set_cons_zero, List.set_cons_succ]
          refine H.take (i := 26) (v := ?v26_2) (by simp only [List.getElem?_toArray, List.getElem?_cons_succ, List.getElem?_cons_zero]; rfl) (by kernel_rfl) rfl (by kernel_rfl) (by kernel_rfl) (by kernel_rfl) (fun _ _ _ h => h) ?h26_2 hS ?_
          case h26_2 => (intro w hw; go_simp; first | done | (with_reducible rfl))
          try simp only [Act.put, List.setIfInBounds_toArray, List.set_cons_zero, List.set_cons_succ]
          refine wpAnyH_done (by kernel_rfl) ?_ _
          have HQ := Lib.hid hS.bel
          clear hS PE1
          clear ixk
          go_wp2
          rw [HEq.out]
          clear z0 z1 z2 HEq
          go_roundw
          case rel => exact ⟨k + 1, hlt, by go_num, rfl, by rw [HLa.out], HQ, HK1⟩
          case measure => simp [intOf]; omega
      · obtain rfl : k = l.length := by omega
        have HZ := Lib.hid (HEO.out HK.out)
        rw [← HBA.out] at HZ
        clear hlt hk HK
        generalize bsK l l.length = bs at *
        go_wp2
        go_ret3
        exact AnsE.of HZ.out HQ.out
end Go.Proofs.Ythfdcmijciclkaa.Re
