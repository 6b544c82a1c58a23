/-
  The document's own Parse: the routes of bytes, or the first error and its place. Condition: at most 2^20 bytes.
-/
import Derived.Test.YthfdcmijciclkaaPa
namespace Go.Proofs.Ythfdcmijciclkaa.Rs
open Go.ChangeShapes Go.WideShapes Go.ChangeAt Go.RowKit
open Go.Proofs.Ythfdcmijciclkaa.Ms
open Go.Proofs.Ythfdcmijciclkaa.Box
open Go.Proofs.Ythfdcmijciclkaa.Rp
open Go.Proofs.Ythfdcmijciclkaa.Rt
open Go.Proofs.Ythfdcmijciclkaa.Hs
open Go.Proofs.Ythfdcmijciclkaa.Hx
open Go.Proofs.Ythfdcmijciclkaa.Ap
open Go.Proofs.Ythfdcmijciclkaa.St
open Go.Proofs.Ythfdcmijciclkaa.Tk (idx ec boxE)
open Go.Proofs.Ythfdcmijciclkaa.Pa
open Go.Proofs.Ythfdcmijciclkaa.All
open Go.Proofs.Ythfdcmijciclkaa.Bk (E Bk Sh shE wpList_builtK wpList_loadK wpList_storeK run_loadK)
open Go.Proofs.Ythfdcmijciclkaa.Or (st_yes)
set_option linter.unusedVariables false
set_option maxRecDepth 100000

theorem out_no {b : ByteArray} {c d : Int} (h : hdAt b = (c, d)) (hn : d ≠ 0) : out b = ([], c, d) := by
  unfold out
  rw [h, if_pos (by simpa using hn)]
/-- What the last statement's loads read. -/
structure Se (g : Nat) (x : E) (W : World) : Prop where
  en : Bk 45 W g x.cells
theorem addr_size (b : ByteArray) (p : Nat) (h : p + 20 ≤ b.size) : (entP b p).addr.size = 16 := by
  show ((b.extract p (p + 20)).extract 0 16).size = 16
  simp; omega

set_option maxHeartbeats 12800000 in
theorem rparse_any (b : ByteArray) (w : World) (hs : b.size ≤ 1048576) : Calls Try.prog 9 #[.string b] w (Ans (out b) w) := by
  have HA := Lib.hid (show hdAt b = if 65535 < b.size then (65535, 10) else if b.size < 4 then ((b.size : Int), 2) else if isCmd (bt b 0) = false then (0, 4) else if (bt b 1 == 1) = false then (1, 4) else if Oct.zeroB (b.extract 2 4).data.toList = false then (2, 5) else if (b.size - 4) % 20 ≠ 0 then ((b.size : Int), 2) else (0, 0) from rfl)
  go_enter Try.func9, Try.ntmps9
  by_cases h0 : 65535 < b.size
  · have HZ := Lib.hid (out_no (b := b) (by rw [HA.out, if_pos h0]) (by decide))
    clear HA
    go_wp2
    go_ret3
    exact Ans.no HZ.out (Below.refl _ _)
  by_cases h1 : b.size < 4
  · have HZ := Lib.hid (out_no (b := b) (by rw [HA.out, if_neg h0, if_pos h1]) (by decide))
    clear HA
    go_wp2
    go_ret3
    exact Ans.no HZ.out (Below.refl _ _)
  have k0 : 0 < b.size := by omega
  have k1 : 1 < b.size := by omega
  have k2 : 2 < b.size := by omega
  have k3 : 3 < b.size := by omega
  have HZ2 := Lib.hid (zero_two b (by omega))
  have HA := Lib.hid (show hdAt b = if isCmd (b[0].toNat : Int) = false then (0, 4) else if ((b[1].toNat : Int) == 1) = false then (1, 4) else if ((b[2].toNat : Int) == 0 && (b[3].toNat : Int) == 0) = false then (2, 5) else if (b.size - 4) % 20 ≠ 0 then ((b.size : Int), 2) else (0, 0) by rw [HA.out, if_neg h0, if_neg h1, HZ2.out, bt_eq b 0 k0, bt_eq b 1 k1, bt_eq b 2 k2, bt_eq b 3 k3])
  have u0 := b[0].toNat_lt
  have u1 := b[1].toNat_lt
  have u2 := b[2].toNat_lt
  have u3 := b[3].toNat_lt
  by_cases q0 : (b[0].toNat : Int) < 1
  · have HZ := Lib.hid (out_no (b := b) (by rw [HA.out, if_pos (isCmd_no (.inl q0))]) (by decide))
    clear HA HZ2
    go_wp2
    go_ret3
    exact Ans.no HZ.out (Below.refl _ _)
  by_cases q1 : 2 < (b[0].toNat : Int)
  · have HZ := Lib.hid (out_no (b := b) (by rw [HA.out, if_pos (isCmd_no (.inr q1))]) (by decide))
    clear HA HZ2
    go_wp2
    go_ret3
    exact Ans.no HZ.out (Below.refl _ _)
  have HA := Lib.hid (HA.out.trans (if_neg (by rw [isCmd_yes (by omega) (by omega)]; simp)))
  rcases (show (b[1].toNat : Int) ≠ 1 ∨ (b[1].toNat : Int) = 1 by omega) with z1 | z1
  · have e1 : ((b[1].toNat : Int) == 1) = false := by rw [beq_eq_false_iff_ne]; exact z1
    have m1 : ((b[1].toNat : Int) != 1) = true := by rw [bne, e1]; rfl
    have HZ := Lib.hid (out_no (b := b) (by rw [HA.out, if_pos e1]) (by decide))
    clear HA HZ2 z1
    go_wp2
    go_ret3
    exact Ans.no HZ.out (Below.refl _ _)
  have e1 : ((b[1].toNat : Int) == 1) = true := by rw [beq_iff_eq]; exact z1
  have m1 : ((b[1].toNat : Int) != 1) = false := by rw [bne, e1]; rfl
  have HA := Lib.hid (HA.out.trans (if_neg (by rw [e1]; decide)))
  clear z1
  rcases (show (b[2].toNat : Int) ≠ 0 ∨ (b[2].toNat : Int) = 0 by omega) with z2 | z2
  · have e2 : ((b[2].toNat : Int) == 0) = false := by rw [beq_eq_false_iff_ne]; exact z2
    have m2 : ((b[2].toNat : Int) != 0) = true := by rw [bne, e2]; rfl
    have HZ := Lib.hid (out_no (b := b) (c := 2) (d := 5) (by rw [HA.out, e2]; rfl) (by decide))
    clear HA HZ2 z2
    go_wp2
    go_ret3
    exact Ans.no HZ.out (Below.refl _ _)
  have e2 : ((b[2].toNat : Int) == 0) = true := by rw [beq_iff_eq]; exact z2
  have m2 : ((b[2].toNat : Int) != 0) = false := by rw [bne, e2]; rfl
  clear z2
  rcases (show (b[3].toNat : Int) ≠ 0 ∨ (b[3].toNat : Int) = 0 by omega) with z3 | z3
  · have e3 : ((b[3].toNat : Int) == 0) = false := by rw [beq_eq_false_iff_ne]; exact z3
    have m3 : ((b[3].toNat : Int) != 0) = true := by rw [bne, e3]; rfl
    have HZ := Lib.hid (out_no (b := b) (c := 2) (d := 5) (by rw [HA.out, e2, e3]; rfl) (by decide))
    clear HA HZ2 z3
    go_wp2
    go_ret3
    exact Ans.no HZ.out (Below.refl _ _)
  have e3 : ((b[3].toNat : Int) == 0) = true := by rw [beq_iff_eq]; exact z3
  have m3 : ((b[3].toNat : Int) != 0) = false := by rw [bne, e3]; rfl
  clear z3
  have HA := Lib.hid (show hdAt b = if (b.size - 4) % 20 ≠ 0 then ((b.size : Int), 2) else (0, 0) by rw [HA.out, e2, e3]; rfl)
  go_upto_region 11 with fail
  clear e1 m1 e2 e3 m2 m3 q0 q1 u0 u1 u2 u3 HZ2
  by_cases h5 : (b.size - 4) % 20 ≠ 0
  · have HZ := Lib.hid (out_no (b := b) (by rw [HA.out, if_pos h5]) (by decide))
    have e1 : (((b.size : Int) - 4) % 20 == 0) = false := by rw [beq_eq_false_iff_ne]; omega
    have e2 : (((b.size : Int) - 4) % 20 != 0) = true := by rw [bne, e1]; rfl
    clear HA h5
    go_wp2
    go_ret3
    exact Ans.no HZ.out (Below.refl _ _)
  have hd0 : hdAt b = (0, 0) := by rw [HA.out, if_neg h5]
  have HO := Lib.hid (show out b = ents b ((b.size - 4) / 20) by unfold out; rw [hd0]; rfl)
  have e1 : (((b.size : Int) - 4) % 20 == 0) = true := by rw [beq_iff_eq]; omega
  have e2 : (((b.size : Int) - 4) % 20 != 0) = false := by rw [bne, e1]; rfl
  obtain ⟨n, hn⟩ : ∃ n, b.size = 4 + 20 * n := ⟨(b.size - 4) / 20, by omega⟩
  rw [show (b.size - 4) / 20 = n by omega] at HO
  have HN := Lib.hid hn
  have H65 := Lib.hid h0
  have HJ0 := Lib.hid (idx b 0 0 rfl k0)
  have HV0 := Lib.hid (conv8 (bt b 0) (bt_nn _ _) (bt_lt _ _))
  have PN := Lib.hid (fun W => none_any W)
  clear h5 hd0 hn
  go_upto_region 14 with fail
  clear e1 e2 h0 h1
  go_wp2_with fail
  refine (PN.out _).mono ?_
  rintro e w1 ⟨rfl, hb1⟩
  have HB1 := Lib.hid hb1
  clear hb1
  go_upto_region 15 with fail
  go_wp2
  have hN0 : nxK b 0 = none16 := rfl
  have hR0 : rts b 0 = [] := rfl
  go_loopw [5, 6, 7] (fun v nx i wr => ∃ k : Nat, k ≤ n ∧ nx = .string (nxK b k) ∧ i = .int .i64 ((4 + 20 * k : Nat) : Int) ∧ Hid (Lst w.heap.size wr v (rts b k)) ∧ Hid (∀ i, i < k → ckI b i = 0) ∧ Hid (Below w.heap.size w wr)) (fun _ _ i _ => b.size - (intOf i).toNat)
  case atStart => exact ⟨0, Nat.zero_le _, rfl, rfl, Lib.hid (Lst.nil _ _), Lib.hid (fun i hi => absurd hi (by omega)), HB1⟩
  case round =>
    obtain ⟨k, hk, rfl, rfl, HL, HK, HB⟩ := hrel
    clear HB1 hN0 hR0
    obtain ⟨va, vc, rfl⟩ := own_form HL.out
    by_cases hlt : k < n
    · have HS := Lib.hid (fun hz => ents_some (b := b) (n := n) hlt HK.out hz)
      have HJ := Lib.hid (fun hc => ckI_succ HK.out hc)
      have HNx := Lib.hid (show nxK b (k + 1) = stN (nxK b k) (entP b (4 + 20 * k)) from nxK_succ b k)
      have HRt := Lib.hid (show rts b (k + 1) = stL (bt b 0) (nxK b k) (entP b (4 + 20 * k)) (rts b k) from rts_succ b k)
      have HP : Hid (((4 + 20 * (k + 1) : Nat) : Int) = ((4 + 20 * k : Nat) : Int) + 20) := Lib.hid (by omega)
      have hp : 4 + 20 * k + 20 ≤ b.size := by have := HN.out; omega
      have HM : Hid (b.size - ((4 + 20 * k : Nat) : Int).toNat > b.size - (((4 + 20 * k : Nat) : Int) + 20).toNat) := Lib.hid (by omega)
      have hb65 : b.size ≤ 65535 := by have := H65.out; omega
      have HL1 : Hid ((rts b k).length ≤ 100000) := Lib.hid (by have := rts_len b k; have := HN.out; omega)
      have HCk : Hid (ckI b k = ckE (entP b (4 + 20 * k))) := Lib.hid rfl
      have HAs := Lib.hid (addr_size b (4 + 20 * k) hp)
      clear hk HK
      generalize ckI b k = ck at *
      generalize hq : 4 + 20 * k = p at *
      clear hq
      have sl := Rte.sl_m b (p : Int) ((p : Int) + 20) p (p + 20) rfl (by omega) (by omega) hp
      have PG : Hid (∀ W, Calls Try.prog 21 #[.string (b.extract p (p + 20))] W fun e w' => e = .returned (.tuple #[.agg (entP b p).cells, .bool true]) ∧ Below W.heap.size W w') := Lib.hid (fun W => Rte.rget_yes _ W (ent_ck b p hp))
      generalize entP b p = x at *
      generalize nxK b k = nx at *
      generalize hlk : rts b k = lk at *
      clear hlk
      generalize hn3 : lk.length = n3 at *
      have HN3 := Lib.hid hn3
      clear hn3
      go_wp2_with fail
      refine (PG.out _).mono ?_
      rintro e w1 ⟨rfl, hb⟩
      have HL := Lib.hid (HL.out.below hb)
      have HB := Lib.hid (bcall HB.out hb)
      clear hb PG sl
      go_upto_region 19 with (first | (refine wpList_storeK (b := w1.heap.size) shE rfl _ _ rfl rfl rfl (Bk.Bk.new 45 w1 E.zero.cells) rfl rfl (E.one x) ?_))
      change Code.wp _ _ _ _ ((w1.alloc (.cells E.zero.cells 45)).setRow w1.heap.size x.cells)
      rw [World.setRow_alloc_new]
      have HL := Lib.hid (HL.out.below (balloc (Below.refl _ w1) (.cells x.cells 45)))
      have HB := Lib.hid (balloc HB.out (.cells x.cells 45))
      have HX := Lib.hid (Bk.Bk.new 45 w1 x.cells)
      generalize w1.alloc (.cells x.cells 45) = W2 at *
      generalize w1.heap.size = g at *
      have c5 := (ec HX.out).c5
      by_cases hm : x.met = 255
      · have HC := Lib.hid (show ck = ckHop x by rw [HCk.out]; unfold ckE; rw [if_pos hm])
        have HHp := Lib.hid (show ckHop x = if x.tag == 0 && x.fam == 0 then 0 else 5 from rfl)
        have HNx := Lib.hid (show nxK b (k + 1) = nx1 x by rw [HNx.out]; unfold stN; rw [if_pos hm])
        have HRt := Lib.hid (show rts b (k + 1) = lk by rw [HRt.out]; unfold stL; rw [if_pos hm, List.append_nil])
        have HN1 := Lib.hid (show nx1 x = if link x.addr then x.addr else none16 from rfl)
        have e1 : (x.met == 255) = true := by simpa using hm
        clear hm
        go_upto_region 20 with fail
        clear e1 c5
        have c0 := (ec HX.out).c0
        have c1 := (ec HX.out).c1
        generalize h1 : (x.tag == 0) = x1 at *
        generalize h2 : (x.fam == 0) = x2 at *
        have n1 : (x.tag != 0) = !x1 := by rw [bne, h1]
        have n2 : (x.fam != 0) = !x2 := by rw [bne, h2]
        cases x1
        · have H5 := Lib.hid (show ck = 5 by rw [HC.out, HHp.out]; rfl)
          have HZ := Lib.hid (HS.out (by rw [H5.out]; decide))
          clear HS HJ
          go_wp2
          go_ret3
          exact Ans.no (by rw [HO.out, HZ.out, H5.out]) HB.out
        cases x2
        · have H5 := Lib.hid (show ck = 5 by rw [HC.out, HHp.out]; rfl)
          have HZ := Lib.hid (HS.out (by rw [H5.out]; decide))
          clear HS HJ
          go_wp2
          go_ret3
          exact Ans.no (by rw [HO.out, HZ.out, H5.out]) HB.out
        have HK1 := Lib.hid (HJ.out (by rw [HC.out, HHp.out]; rfl))
        clear HS HJ
        go_upto_region 22 with fail
        clear c0 c1 n1 n2 h1 h2
        go_wp2_with fail
        refine (PN.out _).mono ?_
        rintro e w3 ⟨rfl, hb⟩
        have HL := Lib.hid (HL.out.below hb)
        have HB := Lib.hid (bcall HB.out hb)
        have HX := Lib.hid (HX.out.below hb)
        clear hb
        go_upto_region 23 with fail
        have c2 := (ec HX.out).c2
        have PL := Lib.hid (fun W => rlink_bel x.addr W)
        generalize link x.addr = lx at *
        cases lx
        · have HNx := Lib.hid (HNx.out.trans HN1.out)
          go_wp2_with fail
          refine (PL.out _).mono ?_
          rintro e w4 ⟨rfl, hb⟩
          have HL := Lib.hid (show Lst w.heap.size w4 (.slice va n3 vc) (rts b (k + 1)) by rw [HRt.out]; exact HL.out.below hb)
          have HB := Lib.hid (bcall HB.out hb)
          clear hb c2 HX PL
          go_wp2
          go_roundw
          case rel => exact ⟨k + 1, hlt, by rw [HNx.out]; rfl, by rw [HP.out], HL, HK1, HB⟩
          case measure => have := HM.out; simp only [intOf]; omega
        · have HNx := Lib.hid (HNx.out.trans HN1.out)
          go_wp2_with fail
          refine (PL.out _).mono ?_
          rintro e w4 ⟨rfl, hb⟩
          have HL := Lib.hid (show Lst w.heap.size w4 (.slice va n3 vc) (rts b (k + 1)) by rw [HRt.out]; exact HL.out.below hb)
          have HB := Lib.hid (bcall HB.out hb)
          have HX := Lib.hid (HX.out.below hb)
          clear hb c2 PL
          have c2 := (ec HX.out).c2
          go_wp2
          go_roundw
          case rel => exact ⟨k + 1, hlt, by rw [HNx.out]; rfl, by rw [HP.out], HL, HK1, HB⟩
          case measure => have := HM.out; simp only [intOf]; omega
      · have HC := Lib.hid (show ck = ckRte x by rw [HCk.out]; unfold ckE; rw [if_neg hm])
        have HHp := Lib.hid (show ckRte x = if pfxB x.addr x.fam then (if isMet x.met then 0 else 6) else 7 from rfl)
        have HNx := Lib.hid (show nxK b (k + 1) = nx by rw [HNx.out]; unfold stN; rw [if_neg hm])
        have HRt := Lib.hid (show rts b (k + 1) = lk ++ [routeM (bt b 0) nx x] by rw [HRt.out]; unfold stL; rw [if_neg hm])
        have e1 : (x.met == 255) = false := by simpa using hm
        have P3 := Lib.hid (fun W => Pre.rright_any x.addr x.fam W (by have := HAs.out; unfold maxLen; omega))
        rw [← pfx_yes HAs.out] at P3
        clear hm
        go_upto_region 25 with fail
        clear e1 c5
        have c2 := (ec HX.out).c2
        have c0 := (ec HX.out).c0
        generalize pfxB x.addr x.fam = px at *
        cases px
        · have H5 := Lib.hid (show ck = 7 by rw [HC.out, HHp.out]; rfl)
          have HZ := Lib.hid (HS.out (by rw [H5.out]; decide))
          clear HS HJ
          go_wp2_with fail
          refine (P3.out _).mono ?_
          rintro e w3 ⟨rfl, hb⟩
          have HB := Lib.hid (bcall HB.out hb)
          clear hb c2 c0 HX HL
          go_wp2
          go_ret3
          exact Ans.no (by rw [HO.out, HZ.out, H5.out]) HB.out
        go_wp2_with fail
        refine (P3.out _).mono ?_
        rintro e w3 ⟨rfl, hb⟩
        have HB := Lib.hid (bcall HB.out hb)
        have HL := Lib.hid (HL.out.below hb)
        have HX := Lib.hid (HX.out.below hb)
        clear hb c2 c0 P3
        go_upto_region 27 with fail
        have c5 := (ec HX.out).c5
        by_cases t1 : x.met < 1
        · have H5 := Lib.hid (show ck = 6 by rw [HC.out, HHp.out, show isMet x.met = false by unfold isMet; simp; omega]; rfl)
          have HZ := Lib.hid (HS.out (by rw [H5.out]; decide))
          clear HS HJ
          go_wp2
          go_ret3
          exact Ans.no (by rw [HO.out, HZ.out, H5.out]) HB.out
        by_cases t2 : 16 < x.met
        · have H5 := Lib.hid (show ck = 6 by rw [HC.out, HHp.out, show isMet x.met = false by unfold isMet; simp; omega]; rfl)
          have HZ := Lib.hid (HS.out (by rw [H5.out]; decide))
          clear HS HJ
          go_wp2
          go_ret3
          exact Ans.no (by rw [HO.out, HZ.out, H5.out]) HB.out
        have HK1 := Lib.hid (HJ.out (by rw [HC.out, HHp.out, show isMet x.met = true by unfold isMet; simp; omega]; rfl))
        clear HS HJ HC HHp
        go_upto_region 29 with fail
        clear t1 t2 c5
        have HL : Hid (Lst w.heap.size w3.drew (.slice va n3 vc) lk) := Lib.hid HL.out
        have HB := Lib.hid (show Below w.heap.size w w3.drew from HB.out.drew)
        have HX := Lib.hid (show Bk 45 w3.drew g x.cells from HX.out.drew)
        have HSe := Lib.hid (Se.mk HX.out)
        refine wp_region_held_drew (S := Se g x) (by kernel_rfl) HSe.out (fun hS => ?_)
        generalize w3.drew = w0 at *
        have j0 := HJ0.out
        have v0 := HV0.out
        refine H.take (i := 0) (v := ?v0) (by simp only [List.getElem?_toArray, List.getElem?_cons_zero]; rfl) (by kernel_rfl) rfl (by kernel_rfl) (by kernel_rfl) (by kernel_rfl) (fun _ _ _ h => h) ?h0 hS ?_
        case h0 => (intro w hw; go_simp; first | done | (with_reducible rfl))
        try simp only [Act.put, List.setIfInBounds_toArray, List.set_cons_zero, List.set_cons_succ]
        refine H.take (i := 1) (v := ?v1) (by simp only [List.getElem?_toArray, List.getElem?_cons_succ, List.getElem?_cons_zero]; rfl) (by kernel_rfl) rfl (by kernel_rfl) (by kernel_rfl) (by kernel_rfl) (fun _ _ _ h => h) ?h1 hS ?_
        case h1 => (intro w hw; go_simp; first | done | (with_reducible rfl))
        try simp only [Act.put, List.setIfInBounds_toArray, List.set_cons_zero, List.set_cons_succ]
        refine H.take (i := 2) (v := .int .u8 (bt b 0)) (by simp only [List.getElem?_toArray, List.getElem?_cons_succ, List.getElem?_cons_zero]; rfl) (by kernel_rfl) rfl (by kernel_rfl) (by kernel_rfl) (by kernel_rfl) (fun _ _ _ h => h) ?h2 hS ?_
        case h2 => exact (by intro w hw; go_simp)
        try simp only [Act.put, List.setIfInBounds_toArray, List.set_cons_zero, List.set_cons_succ]
        refine H.take (i := 3) (v := .int .i64 (bt b 0)) (by simp only [List.getElem?_toArray, List.getElem?_cons_succ, List.getElem?_cons_zero]; rfl) (by kernel_rfl) rfl (by kernel_rfl) (by kernel_rfl) (by kernel_rfl) (fun _ _ _ h => h) ?h3 hS ?_
        case h3 => exact (by intro w hw; go_simp)
        try simp only [Act.put, List.setIfInBounds_toArray, List.set_cons_zero, List.set_cons_succ]
        refine H.take (i := 4) (v := ?v4) (by simp only [List.getElem?_toArray, List.getElem?_cons_succ, List.getElem?_cons_zero]; rfl) (by kernel_rfl) rfl (by kernel_rfl) (by kernel_rfl) (by kernel_rfl) (fun _ _ _ h => h) ?h4 hS ?_
        case h4 => (intro w hw; go_simp; first | done | (with_reducible rfl))
        try simp only [Act.put, List.setIfInBounds_toArray, List.set_cons_zero, List.set_cons_succ]
        refine H.take (i := 5) (v := ?v5) (by simp only [List.getElem?_toArray, List.getElem?_cons_succ, List.getElem?_cons_zero]; rfl) (by kernel_rfl) rfl (by kernel_rfl) (by kernel_rfl) (by kernel_rfl) (fun _ _ _ h => h) ?h5 hS ?_
        case h5 => (intro w hw; have c := (ec hw.en).c1; go_simp; first | done | (with_reducible rfl))
        try simp only [Act.put, List.setIfInBounds_toArray, List.set_cons_zero, List.set_cons_succ]
        refine H.take (i := 6) (v := ?v6) (by simp only [List.getElem?_toArray, List.getElem?_cons_succ, List.getElem?_cons_zero]; rfl) (by kernel_rfl) rfl (by kernel_rfl) (by kernel_rfl) (by kernel_rfl) (fun _ _ _ h => h) ?h6 hS ?_
        case h6 => (intro w hw; go_simp; first | done | (with_reducible rfl))
        try simp only [Act.put, List.setIfInBounds_toArray, List.set_cons_zero, List.set_cons_succ]
        refine H.take (i := 7) (v := ?v7) (by simp only [List.getElem?_toArray, List.getElem?_cons_succ, List.getElem?_cons_zero]; rfl) (by kernel_rfl) rfl (by kernel_rfl) (by kernel_rfl) (by kernel_rfl) (fun _ _ _ h => h) ?h7 hS ?_
        case h7 => (intro w hw; have c := (ec hw.en).c2; go_simp; first | done | (with_reducible rfl))
        try simp only [Act.put, List.setIfInBounds_toArray, List.set_cons_zero, List.set_cons_succ]
        refine H.take (i := 8) (v := ?v8) (by simp only [List.getElem?_toArray, List.getElem?_cons_succ, List.getElem?_cons_zero]; rfl) (by kernel_rfl) rfl (by kernel_rfl) (by kernel_rfl) (by kernel_rfl) (fun _ _ _ h => h) ?h8 hS ?_
        case h8 => (intro w hw; go_simp; first | done | (with_reducible rfl))
        try simp only [Act.put, List.setIfInBounds_toArray, List.set_cons_zero, List.set_cons_succ]
        refine H.take (i := 9) (v := ?v9) (by simp only [List.getElem?_toArray, List.getElem?_cons_succ, List.getElem?_cons_zero]; rfl) (by kernel_rfl) rfl (by kernel_rfl) (by kernel_rfl) (by kernel_rfl) (fun _ _ _ h => h) ?h9 hS ?_
        case h9 => (intro w hw; have c := (ec hw.en).c0; go_simp; first | done | (with_reducible rfl))
        try simp only [Act.put, List.setIfInBounds_toArray, List.set_cons_zero, List.set_cons_succ]
        refine H.take (i := 10) (v := ?v10) (by simp only [List.getElem?_toArray, List.getElem?_cons_succ, List.getElem?_cons_zero]; rfl) (by kernel_rfl) rfl (by kernel_rfl) (by kernel_rfl) (by kernel_rfl) (fun _ _ _ h => h) ?h10 hS ?_
        case h10 => (intro w hw; go_simp; first | done | (with_reducible rfl))
        try simp only [Act.put, List.setIfInBounds_toArray, List.set_cons_zero, List.set_cons_succ]
        refine H.take (i := 11) (v := ?v11) (by simp only [List.getElem?_toArray, List.getElem?_cons_succ, List.getElem?_cons_zero]; rfl) (by kernel_rfl) rfl (by kernel_rfl) (by kernel_rfl) (by kernel_rfl) (fun _ _ _ h => h) ?h11 hS ?_
        case h11 => (intro w hw; go_simp; first | done | (with_reducible rfl))
        try simp only [Act.put, List.setIfInBounds_toArray, List.set_cons_zero, List.set_cons_succ]
        refine H.take (i := 12) (v := ?v12) (by simp only [List.getElem?_toArray, List.getElem?_cons_succ, List.getElem?_cons_zero]; rfl) (by kernel_rfl) rfl (by kernel_rfl) (by kernel_rfl) (by kernel_rfl) (fun _ _ _ h => h) ?h12 hS ?_
        case h12 => (intro w hw; have c := (ec hw.en).c5; go_simp; first | done | (with_reducible rfl))
        try simp only [Act.put, List.setIfInBounds_toArray, List.set_cons_zero, List.set_cons_succ]
        refine H.take (i := 13) (v := .agg (M.cells (routeM (bt b 0) nx x))) (by simp only [List.getElem?_toArray, List.getElem?_cons_succ, List.getElem?_cons_zero]; rfl) (by kernel_rfl) rfl (by kernel_rfl) (by kernel_rfl) (by kernel_rfl) (fun _ _ _ h => h) ?h13 hS ?_
        case h13 => exact (fun w hw => ex_built rfl (by kernel_rfl))
        try simp only [Act.put, List.setIfInBounds_toArray, List.set_cons_zero, List.set_cons_succ]
        clear j0 v0
        have HX1 := Lib.hid (HX.out.old (.cells (routeM (bt b 0) nx x).cells 34))
        have HL2 := Lib.hid (HL.out.below (balloc (Below.refl _ w0) (.cells (routeM (bt b 0) nx x).cells 34)))
        have HCn := Lib.hid (cells_new (routeM (bt b 0) nx x) w0)
        have HB1 := Lib.hid (balloc HB.out (.cells (routeM (bt b 0) nx x).cells 34))
        refine H.bsM (i := 14) (by simp only [List.getElem?_toArray, List.getElem?_cons_succ, List.getElem?_cons_zero]; rfl) (by kernel_rfl) (by kernel_rfl) rfl _ rfl (m := routeM (bt b 0) nx x) rfl (Se.mk HX1.out) ?_
        try simp only [Act.put, List.setIfInBounds_toArray, List.set_cons_zero, List.set_cons_succ]
        clear hS HX HL HB HSe
        generalize w0.alloc (.cells (routeM (bt b 0) nx x).cells 34) = W1 at *
        generalize w0.heap.size = g1 at *
        have hne := Lib.hid (ob_ne HL2.out HX1.out (by decide))
        have hltx := HX1.out.lt
        refine H.appM (i := 15) (by simp only [List.getElem?_toArray, List.getElem?_cons_succ, List.getElem?_cons_zero]; rfl) (by kernel_rfl) (by kernel_rfl) rfl _ _ rfl w.heap.size (.slice va n3 vc) lk (routeM (bt b 0) nx x) g1 1 rfl HL2.out rfl HCn.out (by rw [HN3.out]; exact HL1.out) HB1.out.size (fun w' hg => Se.mk ((hg.block g hltx (fun e => hne.out e.symm)).trans HX1.out)) ?_
        intro v2 W2 hown2 hgrow hb2
        try simp only [Act.put, List.setIfInBounds_toArray, List.set_cons_zero, List.set_cons_succ]
        have hS2 := Se.mk ((hgrow.block g hltx (fun e => hne.out e.symm)).trans HX1.out)
        have HB2 := Lib.hid (HB1.out.trans hb2)
        have HL3 := Lib.hid (show Lst w.heap.size W2 v2 (rts b (k + 1)) by rw [HRt.out]; exact hown2)
        clear hown2 hgrow hb2 HX1 HL2 HCn HB1 hne hltx
        refine H.take (i := 16) (v := v2) (by simp only [List.getElem?_toArray, List.getElem?_cons_succ, List.getElem?_cons_zero]; rfl) (by kernel_rfl) rfl (by kernel_rfl) (by kernel_rfl) (by kernel_rfl) (fun _ _ _ h => h) (fun w _ => rfl) hS2 ?_
        try simp only [Act.put, List.setIfInBounds_toArray, List.set_cons_zero, List.set_cons_succ]
        refine wpAnyH_done (by kernel_rfl) ?_ _
        clear hS2
        go_wp2
        go_roundw
        case rel => exact ⟨k + 1, hlt, by rw [HNx.out], by rw [HP.out], HL3, HK1, HB2⟩
        case measure => have := HM.out; simp only [intOf]; omega
    · obtain rfl : k = n := by omega
      have HE := Lib.hid (HO.out.trans (ents_none HK.out))
      have HW := Lib.hid (HL.out.row (rts_flat b k))
      have hge : ¬ ((4 + 20 * k : Nat) : Int) < (b.size : Int) := by have := HN.out; omega
      have hge2 : decide (((4 + 20 * k : Nat) : Int) < (b.size : Int)) = false := decide_eq_false hge
      clear hlt hk HL
      generalize 4 + 20 * k = p at *
      by_cases hz : (rts b k).length = 0
      · have HZ := Lib.hid (HE.out.trans (if_pos hz))
        have e1 : (((rts b k).length : Int) == 0) = true := by rw [beq_iff_eq]; omega
        clear HW HE
        generalize (rts b k).length = len at *
        go_wp2
        go_ret3
        exact Ans.no HZ.out HB.out
      · have HZ := Lib.hid (HE.out.trans (if_neg hz))
        have e1 : (((rts b k).length : Int) == 0) = false := by rw [beq_eq_false_iff_ne]; omega
        have e2 : (((rts b k).length : Int) != 0) = true := by rw [bne, e1]; rfl
        clear HE
        generalize hln : (rts b k).length = len at *
        have HLn := Lib.hid hln
        clear hln
        go_wp2
        go_ret3
        exact Ans.yes HZ.out HLn.out HW.out HB.out
end Go.Proofs.Ythfdcmijciclkaa.Rs
