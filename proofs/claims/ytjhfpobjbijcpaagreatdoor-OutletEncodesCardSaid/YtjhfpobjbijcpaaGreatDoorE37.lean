/-
  The bytes of Subs: the document's Put. Condition: at most 2000 Subs.
-/
import Derived.Test.YtjhfpobjbijcpaaGreatDoorE26
namespace Go.Proofs.YtjhfpobjbijcpaaGreatDoor.S4
open Go.ChangeShapes Go.WideShapes Go.ChangeAt Go.RowKit
open Go.Proofs.YtjhfpobjbijcpaaGreatDoor.Ms
open Go.Proofs.YtjhfpobjbijcpaaGreatDoor.S1
open Go.Proofs.YtjhfpobjbijcpaaGreatDoor.S2
open Go.Proofs.YtjhfpobjbijcpaaGreatDoor.S3
open Go.Proofs.YtjhfpobjbijcpaaGreatDoor.Hs
open Go.Proofs.YtjhfpobjbijcpaaGreatDoor.F1 (enc1 encT)
open Go.Proofs.YtjhfpobjbijcpaaGreatDoor.F6 (cat_is)
set_option linter.unusedVariables false
set_option maxRecDepth 100000
set_option maxRecDepth 100000

/-- What the loads read, and what stands. -/
def Sl (w : World) (p : Addr) (k : Nat) (d : ByteArray) (n : Int) (W : World) : Prop :=
  W.cell? (p.add (k * 2)) = some (.int .i64 n) ∧ W.cell? ⟨(p.add (k * 2)).block, (p.add (k * 2)).off + 1, none⟩ = some (.string d) ∧ p.block < W.heap.size ∧ Below w.heap.size w W
theorem Sl.below (w : World) (p : Addr) (k : Nat) (d : ByteArray) (n : Int) (W W' : World) (h : Sl w p k d n W) (hb : Below W.heap.size W W') : Sl w p k d n W' :=
  ⟨by rw [hb.cell (by rw [add_block]; exact h.2.2.1)]; exact h.1, by rw [hb.cell (by show (p.add (k * 2)).block < _; rw [add_block]; exact h.2.2.1)]; exact h.2.1, Nat.lt_of_lt_of_le h.2.2.1 hb.size, bcall h.2.2.2 hb⟩

set_option maxHeartbeats 3200000 in
theorem rput_any (a : Option Addr) (c : Nat) (l : List El) (w : World) (hl : SRow w a l) (ln : l.length ≤ 2000) (lb : ∀ x ∈ l, x.1.size ≤ 1099511627776) :
    Calls Tryz.prog 67 #[.slice a l.length c] w fun e w' => e = .returned (.tuple #[.string (putS l), .bool (okS l)]) ∧ Below w.heap.size w w' := by
  have P := Lib.hid (rright_any a c l w hl (by omega) lb)
  have HL := Lib.hid hl
  clear lb hl
  by_cases hok : okS l = true
  rotate_left
  · have hok : okS l = false := by simpa using hok
    have HP := Lib.hid (putS_no hok)
    rw [hok] at P
    have HK := Lib.hid hok
    clear hok
    go_enter Tryz.func67, Tryz.ntmps67
    go_wp2_with fail
    refine P.out.mono ?_
    rintro e w1 ⟨rfl, hb⟩
    go_wp2
    go_ret2
    exact ⟨pair_eq HP.out.symm HK.out.symm, hb⟩
  have HP := Lib.hid (putS_yes hok)
  have HM := Lib.hid (may_mem (okS_may hok))
  have HN := Lib.hid (enc_most hok)
  rw [hok] at P
  have HK := Lib.hid hok
  have HLn := Lib.hid ln
  clear hok ln
  go_enter Tryz.func67, Tryz.ntmps67
  go_wp2_with fail
  refine P.out.mono ?_
  rintro e w1 ⟨rfl, hb⟩
  have HB := Lib.hid hb
  clear hb P
  go_wp2
  go_loopw [4, 5] (fun s i wr => ∃ k : Nat, k ≤ l.length ∧ i = .int .i64 k ∧ s = .string ⟨(encT (l.take k)).toArray⟩ ∧ Hid (Below w.heap.size w wr)) (fun _ i _ => l.length - (intOf i).toNat)
  case atStart => exact ⟨0, Nat.zero_le _, rfl, rfl, HB⟩
  case round =>
    obtain ⟨k, hk, rfl, rfl, HR⟩ := hrel
    clear HB
    by_cases hlt : k < l.length
    · obtain ⟨p, rfl, hp, c0, c1⟩ := (HL.out.below HR.out) k hlt
      have ix := fun W => indexS p l.length c k hlt W
      have HT := Lib.hid (enc_take l k hlt)
      have hm := HM.out _ (List.getElem_mem hlt)
      have HL1 := Lib.hid (HN.out k)
      have HL2 := Lib.hid (HN.out (k + 1))
      have hk2 : (k : Int) ≤ 2000 := by have := HLn.out; omega
      have hkl : (k : Int) < (l.length : Int) := by omega
      rw [add_one] at c1
      generalize l[k] = u at *
      generalize encT (l.take k) = bs at *
      obtain ⟨d, n⟩ := u
      obtain ⟨h0, h1, h2⟩ := hm
      simp only [] at h0 h1 h2 c0 c1
      have PP := Lib.hid (fun V => (F6.rput_any n d V (by omega)).mono fun e w' h => tlv_of (x := (d, n)) h0 h1 h2 h)
      have HS0 : Hid (Sl w p k d n wr.drew) := Lib.hid ⟨c0, c1, hp, HR.out.drew⟩
      generalize hz : (⟨(enc1 (d, n)).toArray⟩ : ByteArray) = z at *
      have HT : Hid (encT (l.take (k + 1)) = bs ++ z.data.toList) := Lib.hid (by rw [HT.out, ← hz])
      have hbz : bs.length + z.size ≤ 200 := by
        have := HL2.out
        rw [HT.out, List.length_append] at this
        simpa using this
      have ct := cat_is ⟨bs.toArray⟩ z ⟨(encT (l.take (k + 1))).toArray⟩ (by show bs.toArray.size ≤ _; rw [List.size_toArray]; omega) (by omega) (by rw [HT.out]; exact ByteArray.ext (by simp [ByteArray.data_append]))
      clear hz h0 h1 h2 c0 c1 hp hbz HL1 HL2 HR
      generalize hz2 : (⟨(encT (l.take (k + 1))).toArray⟩ : ByteArray) = z2 at *
      have HZ2 := Lib.hid hz2
      clear hz2
      generalize (⟨bs.toArray⟩ : ByteArray) = z0 at *
      go_upto_region 7 with fail
      refine wp_region_held_drew (S := Sl w p k d n) (by kernel_rfl) HS0.out (fun hS => ?_)
      clear HS0
      generalize wr.drew = V at *
      refine H.tk (i := 0) (v := ?v0) ?h0 hS ?_
      case h0 => (intro w hw; go_simp; first | done | (with_reducible rfl))
      try simp only [Act.put, List.setIfInBounds_toArray, List.set_cons_zero, List.set_cons_succ]
      refine H.tk (i := 1) (v := ?v1) ?h1 hS ?_
      case h1 => (intro w hw; go_simp; first | done | (with_reducible rfl))
      try simp only [Act.put, List.setIfInBounds_toArray, List.set_cons_zero, List.set_cons_succ]
      refine H.tk (i := 2) (v := ?v2) ?h2 hS ?_
      case h2 => (intro w hw; go_simp; first | done | (with_reducible rfl))
      try simp only [Act.put, List.setIfInBounds_toArray, List.set_cons_zero, List.set_cons_succ]
      refine H.tk (i := 3) (v := ?v3) ?h3 hS ?_
      case h3 => (intro w hw; go_simp; first | done | (with_reducible rfl))
      try simp only [Act.put, List.setIfInBounds_toArray, List.set_cons_zero, List.set_cons_succ]
      refine H.tk (i := 4) (v := ?v4) ?h4 hS ?_
      case h4 => (intro w hw; obtain ⟨c0, c1, -, -⟩ := hw; go_simp; first | done | (with_reducible rfl))
      try simp only [Act.put, List.setIfInBounds_toArray, List.set_cons_zero, List.set_cons_succ]
      refine H.tk (i := 5) (v := ?v5) ?h5 hS ?_
      case h5 => (intro w hw; go_simp; first | done | (with_reducible rfl))
      try simp only [Act.put, List.setIfInBounds_toArray, List.set_cons_zero, List.set_cons_succ]
      refine H.tk (i := 6) (v := ?v6) ?h6 hS ?_
      case h6 => (intro w hw; go_simp; first | done | (with_reducible rfl))
      try simp only [Act.put, List.setIfInBounds_toArray, List.set_cons_zero, List.set_cons_succ]
      refine H.tk (i := 7) (v := ?v7) ?h7 hS ?_
      case h7 => (intro w hw; go_simp; first | done | (with_reducible rfl))
      try simp only [Act.put, List.setIfInBounds_toArray, List.set_cons_zero, List.set_cons_succ]
      refine H.tk (i := 8) (v := ?v8) ?h8 hS ?_
      case h8 => (intro w hw; go_simp; first | done | (with_reducible rfl))
      try simp only [Act.put, List.setIfInBounds_toArray, List.set_cons_zero, List.set_cons_succ]
      refine H.tk (i := 9) (v := ?v9) ?h9 hS ?_
      case h9 => (intro w hw; obtain ⟨c0, c1, -, -⟩ := hw; go_simp; first | done | (with_reducible rfl))
      try simp only [Act.put, List.setIfInBounds_toArray, List.set_cons_zero, List.set_cons_succ]
      refine wpAnyH_ready (rs := [10]) (by kernel_rfl) (by simp) ?_
      refine AllReadyH.cons rfl (fun K hK => ?_) AllReadyH.nil
      go_simp
      refine (heldP (Sl w p k d n) (Sl.below w p k d n) (PP.out _) hS).mono ?_
      rintro e w10 ⟨rfl, hS10⟩
      refine hK.out _ _ hS10 (fun _ => ?_)
      clear hK K hS
      have hS := hS10
      clear hS10
      try simp only [Act.put, List.setIfInBounds_toArray, List.set_cons_zero, List.set_cons_succ]
      refine H.tk (i := 11) (v := ?v11) ?h11 hS ?_
      case h11 => (intro w hw; go_simp; first | done | (with_reducible rfl))
      try simp only [Act.put, List.setIfInBounds_toArray, List.set_cons_zero, List.set_cons_succ]
      refine H.tk (i := 12) (v := ?v12) ?h12 hS ?_
      case h12 => (intro w hw; go_simp; first | done | (with_reducible rfl))
      try simp only [Act.put, List.setIfInBounds_toArray, List.set_cons_zero, List.set_cons_succ]
      refine H.tk (i := 13) (v := ?v13) ?h13 hS ?_
      case h13 => (intro w hw; go_simp; first | done | (with_reducible rfl))
      try simp only [Act.put, List.setIfInBounds_toArray, List.set_cons_zero, List.set_cons_succ]
      refine H.tk (i := 14) (v := ?v14) ?h14 hS ?_
      case h14 => (intro w hw; go_simp; first | done | (with_reducible rfl))
      try simp only [Act.put, List.setIfInBounds_toArray, List.set_cons_zero, List.set_cons_succ]
      refine H.tk (i := 15) (v := ?v15) ?h15 hS ?_
      case h15 => (intro w hw; go_simp; first | done | (with_reducible rfl))
      try simp only [Act.put, List.setIfInBounds_toArray, List.set_cons_zero, List.set_cons_succ]
      refine wpAnyH_done (by kernel_rfl) ?_ _
      have HR := Lib.hid hS.2.2.2
      clear hS PP ix
      go_wp2
      go_roundw
      case rel => exact ⟨k + 1, hlt, by go_num, by rw [HZ2.out], HR⟩
      case measure => simp [intOf]; omega
    · obtain rfl : k = l.length := by omega
      rw [List.take_length]
      go_wp2
      go_ret2
      exact ⟨pair_eq HP.out.symm HK.out.symm, HR.out⟩
end Go.Proofs.YtjhfpobjbijcpaaGreatDoor.S4
