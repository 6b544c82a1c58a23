/-
  The document's own Encode. Conditions: a list of at most 1000 messages, whose lists aren't long.
-/
import Derived.Test.YtfaobpmbiocafaaRl
import Derived.Test.YtfaobpmbiocafaaEc
namespace Go.Proofs.Ytfaobpmbiocafaa.Re
open Go.ChangeShapes Go.WideShapes Go.ChangeAt Go.RowKit
open Go.Proofs.Ytfaobpmbiocafaa.Ms
open Go.Proofs.Ytfaobpmbiocafaa.Box
open Go.Proofs.Ytfaobpmbiocafaa.Rp
open Go.Proofs.Ytfaobpmbiocafaa.Ps
open Go.Proofs.Ytfaobpmbiocafaa.Es
open Go.Proofs.Ytfaobpmbiocafaa.Hs
open Go.Proofs.Ytfaobpmbiocafaa.All
open Go.Proofs.Ytfaobpmbiocafaa.Ix
open Go.Proofs.Ytfaobpmbiocafaa.Tg
open Go.Proofs.Ytfaobpmbiocafaa.Wr
open Go.Proofs.Ytfaobpmbiocafaa.Ec
open Go.Proofs.Ytfaobpmbiocafaa.Rl
open Go.Proofs.Ytfaobpmbiocafaa.Or (st_yes)
set_option linter.unusedVariables false
set_option maxRecDepth 100000

/-- What stays: the first message's copy. -/
structure Fs (w W : World) (g : Nat) (f : M) : Prop where
  fst : Bx W g f
  bel : Below w.heap.size w W
theorem Fs.call {w W w' : World} {g : Nat} {f : M} (h : Fs w W g f) (hb : Below W.heap.size W w') : Fs w w' g f := ⟨h.fst.below hb, h.bel.trans (hb.mono h.bel.size)⟩
theorem heldF {P : Program} {f : Nat} {args : Array Value} {v : Ending} {w W : World} {g : Nat} {m : M} (h : Calls P f args W fun e w' => e = v ∧ Below W.heap.size W w') (hS : Fs w W g m) : Calls P f args W fun e w' => e = v ∧ Fs w w' g m :=
  h.mono fun _ _ ⟨he, hb⟩ => ⟨he, hS.call hb⟩
theorem add_str {a b : List UInt8} : (ByteArray.mk a.toArray) ++ (ByteArray.mk b.toArray) = ByteArray.mk (a ++ b).toArray := by
  apply ByteArray.ext
  apply Array.toList_inj.1
  simp [ByteArray.data_append]
theorem add_any {a : List UInt8} {b : ByteArray} : (ByteArray.mk a.toArray) ++ b = ByteArray.mk (a ++ b.data.toList).toArray := by
  apply ByteArray.ext
  apply Array.toList_inj.1
  simp [ByteArray.data_append]
/-- Are they one text? -/
def eqA (a b : ByteArray) : Bool := a.toList == b.toList
theorem most_le (m : M) : most m ≤ 25 ∧ 0 < most m := by unfold most; split <;> omega
theorem at_most {l : List M} {k : Nat} (h : ∀ i, i < k → ckT l i = 0) : k ≤ most (at0 l 0) := by
  refine Decidable.byContradiction fun n => ?_
  have := h (most (at0 l 0)) (by omega)
  rw [ckT_most rfl] at this
  exact absurd this (by decide)

set_option maxHeartbeats 25600000 in
theorem rencode_any (a : Option Addr) (c : Nat) (l : List M) (w : World) (hl : MRow w a l) (hs : ∀ m ∈ l, Short m) (hn : l.length ≤ 1000) :
    Calls Try.prog 15 #[.slice a l.length c] w (AnsE (enc l) w) := by
  have HMr := Lib.hid (fun (W : World) (h : Below w.heap.size w W) => hl.below h)
  have HSh := Lib.hid hs
  clear hs hl
  go_enter Try.func15, Try.ntmps15
  go_upto_region 2 with fail
  go_loopw [5] (fun i wr => ∃ k : Nat, k ≤ l.length ∧ i = .int .i64 k ∧ Hid (∀ i, i < k → ckW l i = 0) ∧ Hid (Below w.heap.size w wr)) (fun i _ => l.length - (intOf i).toNat)
  case atStart => exact ⟨0, Nat.zero_le _, rfl, Lib.hid (fun i hi => absurd hi (by omega)), Lib.hid (Below.refl _ _)⟩
  case round =>
    obtain ⟨k, hk, rfl, HT, HB⟩ := hrel
    by_cases hlt : k < l.length
    · have hrow := HMr.out _ HB.out
      have hin := row_in hrow HSh.out hlt
      obtain ⟨p, rfl, _, hc, _, _⟩ := hrow k hlt
      have P := Lib.hid (Rn.rright_any l[k] wr hin)
      have HI := Lib.hid (fun (h : ckW l k ≠ 0) => enc_wrong hlt HT.out h)
      have HJ := Lib.hid (fun (h : ckW l k = 0) => show ∀ i, i < k + 1 → ckW l i = 0 from fun i hi => by
        by_cases hik : i < k
        · exact HT.out i hik
        · obtain rfl : i = k := by omega
          exact h)
      have HR := Lib.hid (show ckW l k = if rightB l[k] then 0 else 1 by unfold ckW; rw [at0_eq l k hlt])
      have HC := Lib.hid hc
      have ixk := indexM p l.length c k hlt
      clear hrow hin hc HT
      generalize l[k] = u at *
      generalize rightB u = x at *
      cases x
      · have HZ := Lib.hid (HI.out (by rw [HR.out]; decide))
        clear HI HJ HR
        go_wp2_with (first | (refine wpList_loadA (m := u) rfl _ rfl rfl HC.out ?_))
        refine P.out.mono ?_
        rintro e w1 ⟨rfl, hb1⟩
        go_wp2
        go_ret3
        exact AnsE.of HZ.out (bcall HB.out hb1)
      · have HZ := Lib.hid (HJ.out HR.out)
        clear HI HJ HR
        go_wp2_with (first | (refine wpList_loadA (m := u) rfl _ rfl rfl HC.out ?_))
        refine P.out.mono ?_
        rintro e w1 ⟨rfl, hb1⟩
        have HB1 := Lib.hid (bcall HB.out hb1)
        clear hb1
        go_wp2
        go_roundw
        case rel => exact ⟨k + 1, hlt, by go_num, HZ, HB1⟩
        case measure => simp [intOf]; omega
    obtain rfl : k = l.length := by omega
    clear hk
    rcases (show l.length = 0 ∨ 0 < l.length by omega) with h0 | h0
    · have HZ := Lib.hid (enc_none h0)
      have e1 : ((l.length : Int) == 0) = true := by rw [beq_iff_eq]; omega
      clear h0
      go_wp2
      go_ret3
      exact AnsE.of HZ.out HB.out
    have e1 : ((l.length : Int) == 0) = false := by rw [beq_eq_false_iff_ne]; omega
    have HW := Lib.hid HT.out
    have HRi := Lib.hid (all_right HT.out)
    have hrow := HMr.out _ HB.out
    obtain ⟨p, rfl, _, _, _, _⟩ := hrow 0 h0
    have hrow2 := Lib.hid (row_first hrow h0)
    have hrf : rightB (at0 l 0) = true := by rw [at0_eq l 0 h0]; exact HRi.out _ (List.getElem_mem h0)
    have ix0 := indexM p l.length c 0 h0
    have HEN := Lib.hid (fun (k : Nat) (hk : k < l.length) (h : ∀ i, i < k → ckT l i = 0) (hn : ckT l k ≠ 0) => enc_apart HW.out hk h hn)
    have HEO := Lib.hid (fun (h : ∀ i, i < l.length → ckT l i = 0) => enc_ok HW.out (by omega) h)
    have HTM := Lib.hid (fun (k : Nat) (h : k = most (at0 l 0)) => ckT_most h)
    have HTF := Lib.hid (fun (h : 0 ≠ most (at0 l 0)) => ckT_first h)
    have HTT := Lib.hid (fun (k : Nat) (h : k ≠ most (at0 l 0)) (hk : 0 < k) => ckT_tog h hk)
    have HAM := Lib.hid (fun (k : Nat) (h : ∀ i, i < k → ckT l i = 0) => at_most h)
    have HBA := Lib.hid (bs_all l)
    clear hrow HT HW
    generalize hf : at0 l 0 = f at *
    have HF := Lib.hid hf
    clear hf
    go_upto_region 9 with (first | (refine wpList_loadA (m := f) rfl _ rfl rfl hrow2.out ?_) | (refine wpList_storeM (b := wr.heap.size) (m := M.zero) (m' := f) rfl _ _ rfl rfl rfl (heap_alloc_new wr _) ?_))
    change Code.wp _ _ _ _ ((wr.alloc (.cells M.zero.cells 34)).setRow wr.heap.size f.cells)
    rw [World.setRow_alloc_new]
    have F0 : Fs w (wr.alloc (.cells f.cells 34)) wr.heap.size f := ⟨Bx.new wr f, balloc HB.out _⟩
    clear HB ix0 hrow2 e1
    generalize wr.alloc (.cells f.cells 34) = W1 at *
    generalize wr.heap.size = g at *
    have PO := Lib.hid (fun (n : Int) W => of_any n 1 1 rfl (by omega) (by omega) W)
    have HL1 := Lib.hid (Ent.layN_len f.cmd 1)
    have HL2 := Lib.hid (Ent.layN_len f.ver 1)
    have HHd : Hid (hdL f = ((Ent.layN f.cmd 1 ++ Ent.layN f.ver 1) ++ [0, 0]) ++ (Au.putA f.auth).data.toList) := Lib.hid (by unfold hdL; simp)
    have HP1 := Lib.hid (PO.out f.cmd)
    have HP2 := Lib.hid (PO.out f.ver)
    clear PO
    generalize Ent.layN f.cmd 1 = t1 at *
    generalize Ent.layN f.ver 1 = t2 at *
    go_upto_region 10 with fail
    refine wp_region_held_drew (S := fun W => Fs w W g f) (by kernel_rfl) (F0.call (Below.refl _ _).drew) (fun hS => ?_)
    clear F0
    generalize W1.drew = w0 at *
    have z1 : (ByteArray.mk t1.toArray).size ≤ 1 := by have := HL1.out; show t1.toArray.size ≤ 1; simpa using this
    have z2 : (ByteArray.mk t2.toArray).size ≤ 1 := by have := HL2.out; show t2.toArray.size ≤ 1; simpa using this
    have z3 : (ByteArray.mk (t1 ++ t2).toArray).size ≤ 2 := by have := HL1.out; have := HL2.out; show (t1 ++ t2).toArray.size ≤ 2; simp; omega
    have HA1 := Lib.hid (add_str (a := t1) (b := t2))
    have HA2 := Lib.hid (add_str (a := t1 ++ t2) (b := [0, 0]))
    refine H.take (i := 0) (v := .pointer (some ⟨g, 1, none⟩)) (by simp only [List.getElem?_toArray, List.getElem?_cons_zero]; rfl) (by kernel_rfl) rfl (by kernel_rfl) (by kernel_rfl) (by kernel_rfl) (fun _ _ _ h => h) ?r0 hS ?_
    case r0 => (intro w hw; go_simp; first | done | (with_reducible rfl))
    try simp only [Act.put, List.setIfInBounds_toArray, List.set_cons_zero, List.set_cons_succ]
    refine H.take (i := 1) (v := .int .i64 f.cmd) (by simp only [List.getElem?_toArray, List.getElem?_cons_succ, List.getElem?_cons_zero]; rfl) (by kernel_rfl) rfl (by kernel_rfl) (by kernel_rfl) (by kernel_rfl) (fun _ _ _ h => h) ?r1 hS ?_
    case r1 => (intro w hw; have c := hw.fst.cs.c1; go_simp; first | done | (with_reducible rfl))
    try simp only [Act.put, List.setIfInBounds_toArray, List.set_cons_zero, List.set_cons_succ]
    refine H.take (i := 3) (v := .pointer (some ⟨g, 2, none⟩)) (by simp only [List.getElem?_toArray, List.getElem?_cons_succ, List.getElem?_cons_zero]; rfl) (by kernel_rfl) rfl (by kernel_rfl) (by kernel_rfl) (by kernel_rfl) (fun _ _ _ h => h) ?r3 hS ?_
    case r3 => (intro w hw; go_simp; first | done | (with_reducible rfl))
    try simp only [Act.put, List.setIfInBounds_toArray, List.set_cons_zero, List.set_cons_succ]
    refine H.take (i := 4) (v := .int .i64 f.ver) (by simp only [List.getElem?_toArray, List.getElem?_cons_succ, List.getElem?_cons_zero]; rfl) (by kernel_rfl) rfl (by kernel_rfl) (by kernel_rfl) (by kernel_rfl) (fun _ _ _ h => h) ?r4 hS ?_
    case r4 => (intro w hw; have c := hw.fst.cs.c2; go_simp; first | done | (with_reducible rfl))
    try simp only [Act.put, List.setIfInBounds_toArray, List.set_cons_zero, List.set_cons_succ]
    refine wpAnyH_ready (rs := [2]) (by kernel_rfl) (by simp) ?_
    refine AllReadyH.cons rfl (fun K hK => ?_) AllReadyH.nil
    go_simp
    refine (heldF (HP1.out _) hS).mono ?_
    rintro e w2 ⟨rfl, hS2⟩
    refine hK.out _ _ hS2 (fun _ => ?_)
    clear hK K hS
    have hS := hS2
    clear hS2
    try simp only [Act.put, List.setIfInBounds_toArray, List.set_cons_zero, List.set_cons_succ]
    refine wpAnyH_ready (rs := [5]) (by kernel_rfl) (by simp) ?_
    refine AllReadyH.cons rfl (fun K hK => ?_) AllReadyH.nil
    go_simp
    refine (heldF (HP2.out _) hS).mono ?_
    rintro e w5 ⟨rfl, hS5⟩
    refine hK.out _ _ hS5 (fun _ => ?_)
    clear hK K hS
    have hS := hS5
    clear hS5
    try simp only [Act.put, List.setIfInBounds_toArray, List.set_cons_zero, List.set_cons_succ]
    refine H.take (i := 6) (v := .string ⟨(t1 ++ t2).toArray⟩) (by simp only [List.getElem?_toArray, List.getElem?_cons_succ, List.getElem?_cons_zero]; rfl) (by kernel_rfl) rfl (by kernel_rfl) (by kernel_rfl) (by kernel_rfl) (fun _ _ _ h => h) ?r6 hS ?_
    case r6 => (intro w hw; rw [← HA1.out]; go_simp; first | done | (have := HL1.out; have := HL2.out; omega))
    try simp only [Act.put, List.setIfInBounds_toArray, List.set_cons_zero, List.set_cons_succ]
    refine H.take (i := 7) (v := .string ⟨(t1 ++ t2 ++ [0, 0]).toArray⟩) (by simp only [List.getElem?_toArray, List.getElem?_cons_succ, List.getElem?_cons_zero]; rfl) (by kernel_rfl) rfl (by kernel_rfl) (by kernel_rfl) (by kernel_rfl) (fun _ _ _ h => h) ?r7 hS ?_
    case r7 => (intro w hw; rw [← HA2.out]; go_simp; first | done | (have := HL1.out; have := HL2.out; omega))
    try simp only [Act.put, List.setIfInBounds_toArray, List.set_cons_zero, List.set_cons_succ]
    refine H.take (i := 8) (v := .string ⟨(t1 ++ t2 ++ [0, 0]).toArray⟩) (by simp only [List.getElem?_toArray, List.getElem?_cons_succ, List.getElem?_cons_zero]; rfl) (by kernel_rfl) rfl (by kernel_rfl) (by kernel_rfl) (by kernel_rfl) (fun _ _ _ h => h) ?r8 hS ?_
    case r8 => exact fun w _ => rfl
    try simp only [Act.put, List.setIfInBounds_toArray, List.set_cons_zero, List.set_cons_succ]
    refine wpAnyH_done (by kernel_rfl) ?_ _
    clear z1 z2 z3 HL1 HL2 HP1 HP2
    have HS0 : Hid ((ByteArray.mk (t1 ++ t2 ++ [0, 0]).toArray).size ≤ 100 ∧ (hdL f = (t1 ++ t2 ++ [0, 0]) ++ (Au.putA f.auth).data.toList)) := Lib.hid ⟨by
      have := hd_len f
      rw [HHd.out, List.length_append] at this
      show (t1 ++ t2 ++ [0, 0]).toArray.size ≤ 100
      simp only [List.size_toArray]
      omega, HHd.out⟩
    clear HHd HA1 HA2
    generalize t1 ++ t2 ++ [0, 0] = hs0 at *
    have c3 := hS.fst.cs.c3
    by_cases ha : f.auth.size = 0
    · have HMo : Hid (most f = 25) := Lib.hid (by unfold most; rw [if_pos ha])
      have he : f.auth = ⟨#[]⟩ := ByteArray.ext (Array.eq_empty_of_size_eq_zero ha)
      have HSv : Hid (hs0 = hdL f) := Lib.hid (by rw [HS0.out.2, he, show (Au.putA ⟨#[]⟩).data.toList = [] by (unfold Au.putA; rw [if_neg (by decide)]; rfl), List.append_nil])
      rw [he] at c3
      clear ha he
      have hq := HSv.out
      subst hq
      clear HSv HS0
      go_upto_region 16 with fail
      clear c3
      have HQ := Lib.hid hS
      clear hS
      rw [HMo.out] at HTM HTF HTT HAM
      clear HMo
      go_loopw [8, 11] (fun s i wr => ∃ k : Nat, k ≤ l.length ∧ i = .int .i64 k ∧ s = .string ⟨(bsK f l k).toArray⟩ ∧ Hid (Fs w wr g f) ∧ Hid (∀ i, i < k → ckT l i = 0)) (fun _ i _ => l.length - (intOf i).toNat)
      case atStart => exact ⟨0, Nat.zero_le _, rfl, by rw [bs_zero], HQ, Lib.hid (fun i hi => absurd hi (by omega))⟩
      case round =>
        obtain ⟨k, hk, rfl, rfl, HQ, HK⟩ := hrel
        by_cases hlt : k < l.length
        · have hrow := HMr.out _ HQ.out.bel
          have hkm := HAM.out k HK.out
          obtain ⟨p2, hp2, _, hc, _, _⟩ := hrow k hlt
          obtain rfl : p = p2 := by simpa using hp2
          have hu := at0_eq l k hlt
          have HN := Lib.hid (HEN.out k hlt HK.out)
          have HJ := Lib.hid (fun (h : ckT l k = 0) => show ∀ i, i < k + 1 → ckT l i = 0 from fun i hi => by
            by_cases hik : i < k
            · exact HK.out i hik
            · obtain rfl : i = k := by omega
              exact h)
          have HM1 := Lib.hid (HTM.out k)
          have HT1 := Lib.hid (HTT.out k)
          have hru := HRi.out _ (List.getElem_mem hlt)
          have PL := Lib.hid (fun W => line_any l[k] W (right_ok hru))
          have HBs := Lib.hid (bs_succ f l k hlt)
          have HLn := Lib.hid (bs_len f l k (by omega))
          have HLi : Hid (lineL l[k] = (Ent.putE (entryM l[k])).data.toList ∧ (lineL l[k]).length ≤ 20) := Lib.hid ⟨rfl, line_len _⟩
          rw [hu] at HT1
          have HF0 : Hid (k = 0 → l[k] = f) := Lib.hid (fun h => by rw [← hu, h]; exact HF.out)
          have ixk := indexM p l.length c k hlt
          clear hrow hp2 hu hru HK
          have HCk := Lib.hid hc
          clear hc hk
          generalize l[k] = u at *
          generalize p.add (k * 25) = q at *
          rcases (show 25 ≤ k ∨ k < 25 by omega) with hm | hm
          · have h8 := HM1.out (by omega)
            have HZ := Lib.hid (show enc l = (ByteArray.mk #[], ((k : Nat) : Int), 8) by rw [HN.out (by rw [h8]; decide), h8])
            clear h8 HN HJ HM1 HT1 hkm
            go_wp2
            go_ret3
            exact AnsE.of HZ.out HQ.out.bel
          have hmI : (k : Int) < 25 := by omega
          have c1 : wr.cell? ⟨q.block, q.off + 1, none⟩ = some (.int .i64 u.cmd) := HCk.out 1 _ rfl
          have c2 : wr.cell? ⟨q.block, q.off + 2, none⟩ = some (.int .i64 u.ver) := HCk.out 2 _ rfl
          have c3 : wr.cell? ⟨q.block, q.off + 3, none⟩ = some (.string u.auth) := HCk.out 3 _ rfl
          have c4 : wr.cell? ⟨q.block, q.off + 4, none⟩ = some (.int .i64 u.family) := HCk.out 4 _ rfl
          have d1 := HQ.out.fst.cs.c1
          have d2 := HQ.out.fst.cs.c2
          have d3 := HQ.out.fst.cs.c3
          have d4 := HQ.out.fst.cs.c4
          rcases (show k = 0 ∨ 0 < k by omega) with hk0 | hk0
          · have hz := HF0.out hk0
            have HK1 := Lib.hid (HJ.out (by subst hk0; exact HTF.out (by decide)))
            have e1 : (u.cmd != f.cmd) = false := by rw [hz]; simp
            have e2 : (u.ver != f.ver) = false := by rw [hz]; simp
            have e3 : (u.auth.toList == f.auth.toList) = eqA u.auth f.auth := rfl
            have e3b : eqA u.auth f.auth = true := by unfold eqA; rw [hz]; simp
            have e4 : decide ((0 : Int) < (k : Int)) = false := by rw [hk0]; rfl
            have e8 : decide (0 < k) = false := by rw [hk0]; rfl
            clear hz HN HJ HM1 HT1 HF0 hkm hm hk0
            go_upto_region 20 with fail
            go_quiet (fail)
            go_upto_region 22 with fail
            have HCk := Lib.hid (show ∀ j v, (u.cells.toList)[j]? = some v → (wr.drewN nq).cell? (q.add j) = some v from HCk.out)
            have HQ := Lib.hid (HQ.out.call (below_drewN (Below.refl _ _) nq))
            clear hmI c1 c2 c3 c4 d1 d2 d3 d4 e1 e2 e3 e3b e4 e8
            generalize wr.drewN nq = W8 at *
            go_wp2_with (first | (refine wpList_loadA (m := u) rfl _ rfl rfl HCk.out ?_))
            refine (PL.out _).mono ?_
            rintro e w9 ⟨rfl, hb⟩
            have HQ := Lib.hid (HQ.out.call hb)
            have z1 : (ByteArray.mk (bsK f l k).toArray).size ≤ 30000 := by have := HLn.out; show (bsK f l k).toArray.size ≤ 30000; simp only [List.size_toArray]; omega
            have z0 : (bsK f l k).length ≤ 30000 := by have := HLn.out; omega
            have z2 : (Ent.putE (entryM u)).size ≤ 20 := by have h2 := HLi.out.2; rw [HLi.out.1] at h2; simpa using h2
            have HEq : Hid (ByteArray.mk (bsK f l k).toArray ++ Ent.putE (entryM u) = ByteArray.mk (bsK f l (k + 1)).toArray) := Lib.hid (by rw [add_any, HBs.out, HLi.out.1])
            clear hb HCk HBs HLi PL HLn
            generalize Ent.putE (entryM u) = s at *
            go_wp2
            rw [HEq.out]
            clear z0 z1 z2 HEq
            go_roundw
            case rel => exact ⟨k + 1, hlt, by go_num, rfl, HQ, HK1⟩
            case measure => simp [intOf]; omega
          have e4 : decide ((0 : Int) < (k : Int)) = true := decide_eq_true (by omega)
          have e5 : (0 : Int) < (k : Int) := by omega
          have e8 : decide (0 < k) = true := decide_eq_true hk0
          have e9 : 0 < k := hk0
          have HX := Lib.hid (HT1.out (by omega) hk0)
          have HTg := Lib.hid (show tog f u = (f.family != 0 && (u.family != 0 && (f.cmd == u.cmd && (f.ver == u.ver && f.auth.toList == u.auth.toList)))) from rfl)
          clear HT1 HM1 HF0 hkm hm hk0
          rcases (show u.cmd ≠ f.cmd ∨ u.cmd = f.cmd by omega) with q1 | q1
          · have b1 : (f.cmd == u.cmd) = false := by rw [beq_eq_false_iff_ne]; exact fun h => q1 h.symm
            have HZ := Lib.hid (show enc l = (ByteArray.mk #[], ((k : Nat) : Int), 7) by
              have h7 : ckT l k = 7 := by rw [HX.out, show tog f u = false by (rw [HTg.out]; simp [b1])]; rfl
              rw [HN.out (by rw [h7]; decide), h7])
            have e1 : (u.cmd != f.cmd) = true := by simpa using q1
            clear HN HJ HX HTg q1 b1
            go_upto_region 20 with fail
            go_quiet (fail)
            have bel := HQ.out.call (below_drewN (Below.refl _ _) nq)
            go_wp2
            go_ret3
            exact AnsE.of HZ.out bel.bel
          have b1 : (f.cmd == u.cmd) = true := by rw [beq_iff_eq]; exact q1.symm
          have e1 : (u.cmd != f.cmd) = false := by simpa using q1
          clear q1
          rcases (show u.ver ≠ f.ver ∨ u.ver = f.ver by omega) with q2 | q2
          · have b2 : (f.ver == u.ver) = false := by rw [beq_eq_false_iff_ne]; exact fun h => q2 h.symm
            have HZ := Lib.hid (show enc l = (ByteArray.mk #[], ((k : Nat) : Int), 7) by
              have h7 : ckT l k = 7 := by rw [HX.out, show tog f u = false by (rw [HTg.out]; simp [b2])]; rfl
              rw [HN.out (by rw [h7]; decide), h7])
            have e2 : (u.ver != f.ver) = true := by simpa using q2
            clear HN HJ HX HTg q2 b2 b1
            go_upto_region 20 with fail
            go_quiet (fail)
            have bel := HQ.out.call (below_drewN (Below.refl _ _) nq)
            go_wp2
            go_ret3
            exact AnsE.of HZ.out bel.bel
          have b2 : (f.ver == u.ver) = true := by rw [beq_iff_eq]; exact q2.symm
          have e2 : (u.ver != f.ver) = false := by simpa using q2
          clear q2
          rcases (show u.auth.toList ≠ f.auth.toList ∨ u.auth.toList = f.auth.toList from (Decidable.em _).symm) with q3 | q3
          · have b3 : (f.auth.toList == u.auth.toList) = false := by rw [beq_eq_false_iff_ne]; exact fun h => q3 h.symm
            have HZ := Lib.hid (show enc l = (ByteArray.mk #[], ((k : Nat) : Int), 7) by
              have h7 : ckT l k = 7 := by rw [HX.out, show tog f u = false by (rw [HTg.out]; simp [b3])]; rfl
              rw [HN.out (by rw [h7]; decide), h7])
            have e3 : (u.auth.toList == f.auth.toList) = eqA u.auth f.auth := rfl
            have e3b : eqA u.auth f.auth = false := by unfold eqA; simpa using q3
            clear HN HJ HX HTg q3 b3 b2 b1
            go_upto_region 20 with fail
            go_quiet (fail)
            have bel := HQ.out.call (below_drewN (Below.refl _ _) nq)
            go_wp2
            go_ret3
            exact AnsE.of HZ.out bel.bel
          have b3 : (f.auth.toList == u.auth.toList) = true := by rw [beq_iff_eq]; exact q3.symm
          have e3 : (u.auth.toList == f.auth.toList) = eqA u.auth f.auth := rfl
          have e3b : eqA u.auth f.auth = true := by unfold eqA; simpa using q3
          clear q3
          rcases (show f.family = 0 ∨ f.family ≠ 0 by omega) with q4 | q4
          · have b4 : (f.family != 0) = false := by simpa using q4
            have HZ := Lib.hid (show enc l = (ByteArray.mk #[], ((k : Nat) : Int), 7) by
              have h7 : ckT l k = 7 := by rw [HX.out, show tog f u = false by (rw [HTg.out]; simp [b4])]; rfl
              rw [HN.out (by rw [h7]; decide), h7])
            have e6 : (f.family == 0) = true := by simpa using q4
            clear HN HJ HX HTg q4 b4 b3 b2 b1
            go_upto_region 20 with fail
            go_quiet (fail)
            have bel := HQ.out.call (below_drewN (Below.refl _ _) nq)
            go_wp2
            go_ret3
            exact AnsE.of HZ.out bel.bel
          have b4 : (f.family != 0) = true := by simpa using q4
          have e6 : (f.family == 0) = false := by simpa using q4
          clear q4
          rcases (show u.family = 0 ∨ u.family ≠ 0 by omega) with q5 | q5
          · have b5 : (u.family != 0) = false := by simpa using q5
            have HZ := Lib.hid (show enc l = (ByteArray.mk #[], ((k : Nat) : Int), 7) by
              have h7 : ckT l k = 7 := by rw [HX.out, show tog f u = false by (rw [HTg.out]; simp [b5])]; rfl
              rw [HN.out (by rw [h7]; decide), h7])
            have e7 : (u.family == 0) = true := by simpa using q5
            clear HN HJ HX HTg q5 b5 b4 b3 b2 b1
            go_upto_region 20 with fail
            go_quiet (fail)
            have bel := HQ.out.call (below_drewN (Below.refl _ _) nq)
            go_wp2
            go_ret3
            exact AnsE.of HZ.out bel.bel
          have b5 : (u.family != 0) = true := by simpa using q5
          have e7 : (u.family == 0) = false := by simpa using q5
          clear q5
          have HK1 := Lib.hid (HJ.out (by rw [HX.out, show tog f u = true by rw [HTg.out, b1, b2, b3, b4, b5]; rfl]; rfl))
          clear HN HJ HX HTg b1 b2 b3 b4 b5
          go_upto_region 20 with fail
          go_quiet (fail)
          go_upto_region 22 with fail
          have HCk := Lib.hid (show ∀ j v, (u.cells.toList)[j]? = some v → (wr.drewN nq).cell? (q.add j) = some v from HCk.out)
          have HQ := Lib.hid (HQ.out.call (below_drewN (Below.refl _ _) nq))
          clear hmI c1 c2 c3 c4 d1 d2 d3 d4 e1 e2 e3 e3b e4 e5 e6 e7 e8 e9
          generalize wr.drewN nq = W8 at *
          go_wp2_with (first | (refine wpList_loadA (m := u) rfl _ rfl rfl HCk.out ?_))
          refine (PL.out _).mono ?_
          rintro e w9 ⟨rfl, hb⟩
          have HQ := Lib.hid (HQ.out.call hb)
          have z1 : (ByteArray.mk (bsK f l k).toArray).size ≤ 30000 := by have := HLn.out; show (bsK f l k).toArray.size ≤ 30000; simp only [List.size_toArray]; omega
          have z0 : (bsK f l k).length ≤ 30000 := by have := HLn.out; omega
          have z2 : (Ent.putE (entryM u)).size ≤ 20 := by have h2 := HLi.out.2; rw [HLi.out.1] at h2; simpa using h2
          have HEq : Hid (ByteArray.mk (bsK f l k).toArray ++ Ent.putE (entryM u) = ByteArray.mk (bsK f l (k + 1)).toArray) := Lib.hid (by rw [add_any, HBs.out, HLi.out.1])
          clear hb HCk HBs HLi PL HLn
          generalize Ent.putE (entryM u) = s at *
          go_wp2
          rw [HEq.out]
          clear z0 z1 z2 HEq
          go_roundw
          case rel => exact ⟨k + 1, hlt, by go_num, rfl, HQ, HK1⟩
          case measure => simp [intOf]; omega
        · obtain rfl : k = l.length := by omega
          have HZ := Lib.hid (HEO.out HK.out)
          have HBQ := Lib.hid HBA.out
          rw [HBQ.out]
          clear hk hlt
          go_wp2
          go_ret3
          exact AnsE.of HZ.out HQ.out.bel
    · have HMo : Hid (most f = 24) := Lib.hid (by unfold most; rw [if_neg ha])
      have hn3 : ¬ f.auth.toList = [] := by
        intro h
        rw [ByteArray.toList_eq] at h
        exact ha (by have := congrArg List.length h; simpa using this)
      have hn : (f.auth.toList == []) = false := by rw [beq_eq_false_iff_ne]; exact hn3
      have hn2 : f.auth.toList.isEmpty = false := by
        cases h : f.auth.toList
        · exact absurd h hn3
        · rfl
      have PP := Lib.hid (fun W => (Au.rput_any f.auth W).mono fun _ _ ⟨p1, p2⟩ => And.intro p1 p2.symm)
      have HSz := Lib.hid (putA_size f.auth)
      have HEq : Hid (ByteArray.mk hs0.toArray ++ Au.putA f.auth = ByteArray.mk (hdL f).toArray) := Lib.hid (by rw [add_any, ← HS0.out.2])
      have z1 := HS0.out.1
      have z2 := HSz.out
      clear ha HSz HS0
      generalize Au.putO f.auth = po at *
      generalize Au.putA f.auth = pa at *
      go_wp2_with fail
      refine (PP.out _).mono ?_
      rintro e w9 ⟨rfl, rfl⟩
      have z1' : hs0.length ≤ 100 := by have h : hs0.toArray.size ≤ 100 := z1; simpa using h
      go_upto_region 16 with fail
      rw [HEq.out]
      clear c3 hn hn2 hn3 z1 z2 z1' HEq PP
      have HQ := Lib.hid hS
      clear hS
      rw [HMo.out] at HTM HTF HTT HAM
      clear HMo
      go_loopw [8, 11] (fun s i wr => ∃ k : Nat, k ≤ l.length ∧ i = .int .i64 k ∧ s = .string ⟨(bsK f l k).toArray⟩ ∧ Hid (Fs w wr g f) ∧ Hid (∀ i, i < k → ckT l i = 0)) (fun _ i _ => l.length - (intOf i).toNat)
      case atStart => exact ⟨0, Nat.zero_le _, rfl, by rw [bs_zero], HQ, Lib.hid (fun i hi => absurd hi (by omega))⟩
      case round =>
        obtain ⟨k, hk, rfl, rfl, HQ, HK⟩ := hrel
        by_cases hlt : k < l.length
        · have hrow := HMr.out _ HQ.out.bel
          have hkm := HAM.out k HK.out
          obtain ⟨p2, hp2, _, hc, _, _⟩ := hrow k hlt
          obtain rfl : p = p2 := by simpa using hp2
          have hu := at0_eq l k hlt
          have HN := Lib.hid (HEN.out k hlt HK.out)
          have HJ := Lib.hid (fun (h : ckT l k = 0) => show ∀ i, i < k + 1 → ckT l i = 0 from fun i hi => by
            by_cases hik : i < k
            · exact HK.out i hik
            · obtain rfl : i = k := by omega
              exact h)
          have HM1 := Lib.hid (HTM.out k)
          have HT1 := Lib.hid (HTT.out k)
          have hru := HRi.out _ (List.getElem_mem hlt)
          have PL := Lib.hid (fun W => line_any l[k] W (right_ok hru))
          have HBs := Lib.hid (bs_succ f l k hlt)
          have HLn := Lib.hid (bs_len f l k (by omega))
          have HLi : Hid (lineL l[k] = (Ent.putE (entryM l[k])).data.toList ∧ (lineL l[k]).length ≤ 20) := Lib.hid ⟨rfl, line_len _⟩
          rw [hu] at HT1
          have HF0 : Hid (k = 0 → l[k] = f) := Lib.hid (fun h => by rw [← hu, h]; exact HF.out)
          have ixk := indexM p l.length c k hlt
          clear hrow hp2 hu hru HK
          have HCk := Lib.hid hc
          clear hc hk
          generalize l[k] = u at *
          generalize p.add (k * 25) = q at *
          rcases (show 24 ≤ k ∨ k < 24 by omega) with hm | hm
          · have h8 := HM1.out (by omega)
            have HZ := Lib.hid (show enc l = (ByteArray.mk #[], ((k : Nat) : Int), 8) by rw [HN.out (by rw [h8]; decide), h8])
            clear h8 HN HJ HM1 HT1 hkm
            go_wp2
            go_ret3
            exact AnsE.of HZ.out HQ.out.bel
          have hmI : (k : Int) < 24 := by omega
          have c1 : wr.cell? ⟨q.block, q.off + 1, none⟩ = some (.int .i64 u.cmd) := HCk.out 1 _ rfl
          have c2 : wr.cell? ⟨q.block, q.off + 2, none⟩ = some (.int .i64 u.ver) := HCk.out 2 _ rfl
          have c3 : wr.cell? ⟨q.block, q.off + 3, none⟩ = some (.string u.auth) := HCk.out 3 _ rfl
          have c4 : wr.cell? ⟨q.block, q.off + 4, none⟩ = some (.int .i64 u.family) := HCk.out 4 _ rfl
          have d1 := HQ.out.fst.cs.c1
          have d2 := HQ.out.fst.cs.c2
          have d3 := HQ.out.fst.cs.c3
          have d4 := HQ.out.fst.cs.c4
          rcases (show k = 0 ∨ 0 < k by omega) with hk0 | hk0
          · have hz := HF0.out hk0
            have HK1 := Lib.hid (HJ.out (by subst hk0; exact HTF.out (by decide)))
            have e1 : (u.cmd != f.cmd) = false := by rw [hz]; simp
            have e2 : (u.ver != f.ver) = false := by rw [hz]; simp
            have e3 : (u.auth.toList == f.auth.toList) = eqA u.auth f.auth := rfl
            have e3b : eqA u.auth f.auth = true := by unfold eqA; rw [hz]; simp
            have e4 : decide ((0 : Int) < (k : Int)) = false := by rw [hk0]; rfl
            have e8 : decide (0 < k) = false := by rw [hk0]; rfl
            clear hz HN HJ HM1 HT1 HF0 hkm hm hk0
            go_upto_region 20 with fail
            go_quiet (fail)
            go_upto_region 22 with fail
            have HCk := Lib.hid (show ∀ j v, (u.cells.toList)[j]? = some v → (wr.drewN nq).cell? (q.add j) = some v from HCk.out)
            have HQ := Lib.hid (HQ.out.call (below_drewN (Below.refl _ _) nq))
            clear hmI c1 c2 c3 c4 d1 d2 d3 d4 e1 e2 e3 e3b e4 e8
            generalize wr.drewN nq = W8 at *
            go_wp2_with (first | (refine wpList_loadA (m := u) rfl _ rfl rfl HCk.out ?_))
            refine (PL.out _).mono ?_
            rintro e w9 ⟨rfl, hb⟩
            have HQ := Lib.hid (HQ.out.call hb)
            have z1 : (ByteArray.mk (bsK f l k).toArray).size ≤ 30000 := by have := HLn.out; show (bsK f l k).toArray.size ≤ 30000; simp only [List.size_toArray]; omega
            have z0 : (bsK f l k).length ≤ 30000 := by have := HLn.out; omega
            have z2 : (Ent.putE (entryM u)).size ≤ 20 := by have h2 := HLi.out.2; rw [HLi.out.1] at h2; simpa using h2
            have HEq : Hid (ByteArray.mk (bsK f l k).toArray ++ Ent.putE (entryM u) = ByteArray.mk (bsK f l (k + 1)).toArray) := Lib.hid (by rw [add_any, HBs.out, HLi.out.1])
            clear hb HCk HBs HLi PL HLn
            generalize Ent.putE (entryM u) = s at *
            go_wp2
            rw [HEq.out]
            clear z0 z1 z2 HEq
            go_roundw
            case rel => exact ⟨k + 1, hlt, by go_num, rfl, HQ, HK1⟩
            case measure => simp [intOf]; omega
          have e4 : decide ((0 : Int) < (k : Int)) = true := decide_eq_true (by omega)
          have e5 : (0 : Int) < (k : Int) := by omega
          have e8 : decide (0 < k) = true := decide_eq_true hk0
          have e9 : 0 < k := hk0
          have HX := Lib.hid (HT1.out (by omega) hk0)
          have HTg := Lib.hid (show tog f u = (f.family != 0 && (u.family != 0 && (f.cmd == u.cmd && (f.ver == u.ver && f.auth.toList == u.auth.toList)))) from rfl)
          clear HT1 HM1 HF0 hkm hm hk0
          rcases (show u.cmd ≠ f.cmd ∨ u.cmd = f.cmd by omega) with q1 | q1
          · have b1 : (f.cmd == u.cmd) = false := by rw [beq_eq_false_iff_ne]; exact fun h => q1 h.symm
            have HZ := Lib.hid (show enc l = (ByteArray.mk #[], ((k : Nat) : Int), 7) by
              have h7 : ckT l k = 7 := by rw [HX.out, show tog f u = false by (rw [HTg.out]; simp [b1])]; rfl
              rw [HN.out (by rw [h7]; decide), h7])
            have e1 : (u.cmd != f.cmd) = true := by simpa using q1
            clear HN HJ HX HTg q1 b1
            go_upto_region 20 with fail
            go_quiet (fail)
            have bel := HQ.out.call (below_drewN (Below.refl _ _) nq)
            go_wp2
            go_ret3
            exact AnsE.of HZ.out bel.bel
          have b1 : (f.cmd == u.cmd) = true := by rw [beq_iff_eq]; exact q1.symm
          have e1 : (u.cmd != f.cmd) = false := by simpa using q1
          clear q1
          rcases (show u.ver ≠ f.ver ∨ u.ver = f.ver by omega) with q2 | q2
          · have b2 : (f.ver == u.ver) = false := by rw [beq_eq_false_iff_ne]; exact fun h => q2 h.symm
            have HZ := Lib.hid (show enc l = (ByteArray.mk #[], ((k : Nat) : Int), 7) by
              have h7 : ckT l k = 7 := by rw [HX.out, show tog f u = false by (rw [HTg.out]; simp [b2])]; rfl
              rw [HN.out (by rw [h7]; decide), h7])
            have e2 : (u.ver != f.ver) = true := by simpa using q2
            clear HN HJ HX HTg q2 b2 b1
            go_upto_region 20 with fail
            go_quiet (fail)
            have bel := HQ.out.call (below_drewN (Below.refl _ _) nq)
            go_wp2
            go_ret3
            exact AnsE.of HZ.out bel.bel
          have b2 : (f.ver == u.ver) = true := by rw [beq_iff_eq]; exact q2.symm
          have e2 : (u.ver != f.ver) = false := by simpa using q2
          clear q2
          rcases (show u.auth.toList ≠ f.auth.toList ∨ u.auth.toList = f.auth.toList from (Decidable.em _).symm) with q3 | q3
          · have b3 : (f.auth.toList == u.auth.toList) = false := by rw [beq_eq_false_iff_ne]; exact fun h => q3 h.symm
            have HZ := Lib.hid (show enc l = (ByteArray.mk #[], ((k : Nat) : Int), 7) by
              have h7 : ckT l k = 7 := by rw [HX.out, show tog f u = false by (rw [HTg.out]; simp [b3])]; rfl
              rw [HN.out (by rw [h7]; decide), h7])
            have e3 : (u.auth.toList == f.auth.toList) = eqA u.auth f.auth := rfl
            have e3b : eqA u.auth f.auth = false := by unfold eqA; simpa using q3
            clear HN HJ HX HTg q3 b3 b2 b1
            go_upto_region 20 with fail
            go_quiet (fail)
            have bel := HQ.out.call (below_drewN (Below.refl _ _) nq)
            go_wp2
            go_ret3
            exact AnsE.of HZ.out bel.bel
          have b3 : (f.auth.toList == u.auth.toList) = true := by rw [beq_iff_eq]; exact q3.symm
          have e3 : (u.auth.toList == f.auth.toList) = eqA u.auth f.auth := rfl
          have e3b : eqA u.auth f.auth = true := by unfold eqA; simpa using q3
          clear q3
          rcases (show f.family = 0 ∨ f.family ≠ 0 by omega) with q4 | q4
          · have b4 : (f.family != 0) = false := by simpa using q4
            have HZ := Lib.hid (show enc l = (ByteArray.mk #[], ((k : Nat) : Int), 7) by
              have h7 : ckT l k = 7 := by rw [HX.out, show tog f u = false by (rw [HTg.out]; simp [b4])]; rfl
              rw [HN.out (by rw [h7]; decide), h7])
            have e6 : (f.family == 0) = true := by simpa using q4
            clear HN HJ HX HTg q4 b4 b3 b2 b1
            go_upto_region 20 with fail
            go_quiet (fail)
            have bel := HQ.out.call (below_drewN (Below.refl _ _) nq)
            go_wp2
            go_ret3
            exact AnsE.of HZ.out bel.bel
          have b4 : (f.family != 0) = true := by simpa using q4
          have e6 : (f.family == 0) = false := by simpa using q4
          clear q4
          rcases (show u.family = 0 ∨ u.family ≠ 0 by omega) with q5 | q5
          · have b5 : (u.family != 0) = false := by simpa using q5
            have HZ := Lib.hid (show enc l = (ByteArray.mk #[], ((k : Nat) : Int), 7) by
              have h7 : ckT l k = 7 := by rw [HX.out, show tog f u = false by (rw [HTg.out]; simp [b5])]; rfl
              rw [HN.out (by rw [h7]; decide), h7])
            have e7 : (u.family == 0) = true := by simpa using q5
            clear HN HJ HX HTg q5 b5 b4 b3 b2 b1
            go_upto_region 20 with fail
            go_quiet (fail)
            have bel := HQ.out.call (below_drewN (Below.refl _ _) nq)
            go_wp2
            go_ret3
            exact AnsE.of HZ.out bel.bel
          have b5 : (u.family != 0) = true := by simpa using q5
          have e7 : (u.family == 0) = false := by simpa using q5
          clear q5
          have HK1 := Lib.hid (HJ.out (by rw [HX.out, show tog f u = true by rw [HTg.out, b1, b2, b3, b4, b5]; rfl]; rfl))
          clear HN HJ HX HTg b1 b2 b3 b4 b5
          go_upto_region 20 with fail
          go_quiet (fail)
          go_upto_region 22 with fail
          have HCk := Lib.hid (show ∀ j v, (u.cells.toList)[j]? = some v → (wr.drewN nq).cell? (q.add j) = some v from HCk.out)
          have HQ := Lib.hid (HQ.out.call (below_drewN (Below.refl _ _) nq))
          clear hmI c1 c2 c3 c4 d1 d2 d3 d4 e1 e2 e3 e3b e4 e5 e6 e7 e8 e9
          generalize wr.drewN nq = W8 at *
          go_wp2_with (first | (refine wpList_loadA (m := u) rfl _ rfl rfl HCk.out ?_))
          refine (PL.out _).mono ?_
          rintro e w9 ⟨rfl, hb⟩
          have HQ := Lib.hid (HQ.out.call hb)
          have z1 : (ByteArray.mk (bsK f l k).toArray).size ≤ 30000 := by have := HLn.out; show (bsK f l k).toArray.size ≤ 30000; simp only [List.size_toArray]; omega
          have z0 : (bsK f l k).length ≤ 30000 := by have := HLn.out; omega
          have z2 : (Ent.putE (entryM u)).size ≤ 20 := by have h2 := HLi.out.2; rw [HLi.out.1] at h2; simpa using h2
          have HEq : Hid (ByteArray.mk (bsK f l k).toArray ++ Ent.putE (entryM u) = ByteArray.mk (bsK f l (k + 1)).toArray) := Lib.hid (by rw [add_any, HBs.out, HLi.out.1])
          clear hb HCk HBs HLi PL HLn
          generalize Ent.putE (entryM u) = s at *
          go_wp2
          rw [HEq.out]
          clear z0 z1 z2 HEq
          go_roundw
          case rel => exact ⟨k + 1, hlt, by go_num, rfl, HQ, HK1⟩
          case measure => simp [intOf]; omega
        · obtain rfl : k = l.length := by omega
          have HZ := Lib.hid (HEO.out HK.out)
          have HBQ := Lib.hid HBA.out
          rw [HBQ.out]
          clear hk hlt
          go_wp2
          go_ret3
          exact AnsE.of HZ.out HQ.out.bel
end Go.Proofs.Ytfaobpmbiocafaa.Re
