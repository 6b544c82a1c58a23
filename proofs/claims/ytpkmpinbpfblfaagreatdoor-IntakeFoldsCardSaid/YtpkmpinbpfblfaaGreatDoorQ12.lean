/-
  The TLVs of bytes: the document's Split. Condition: at most 100000 bytes, from a place of at most 2^40 on.
  Which Subs bytes hold: the document's Get. Condition: at most 100000 bytes.
  The document's next hop and message: what a next hop's TLV makes, the message of an Update. Conditions: at most 100000 bytes; the Update counts.
-/
import Derived.Test.YtpkmpinbpfblfaaGreatDoorQ05
import Derived.Test.YtpkmpinbpfblfaaGreatDoorQ06
import Derived.Test.YtpkmpinbpfblfaaGreatDoorQ08
namespace Go.Proofs.YtpkmpinbpfblfaaGreatDoor.F5
open Go.ChangeShapes Go.WideShapes Go.ChangeAt Go.RowKit
open Go.Proofs.YtpkmpinbpfblfaaGreatDoor.F1
open Go.Proofs.YtpkmpinbpfblfaaGreatDoor.F2
open Go.Proofs.YtpkmpinbpfblfaaGreatDoor.F4
open Go.Proofs.YtpkmpinbpfblfaaGreatDoor.Bk (Bk Sh wpList_builtK)
open Go.Proofs.YtpkmpinbpfblfaaGreatDoor.Hs
open Go.Proofs.YtpkmpinbpfblfaaGreatDoor.Hx (conv8 ex_built)
open Go.Proofs.YtpkmpinbpfblfaaGreatDoor.Tl (cellsT oneT Lst bs_one app_one cells_new H.bsT H.appT)
set_option linter.unusedVariables false
set_option maxRecDepth 100000
set_option maxRecDepth 100000

set_option maxHeartbeats 6400000 in
theorem rsplit_own (s : ByteArray) (base : Int) (w : World) (hs : s.size ≤ 100000) (h0 : 0 ≤ base) (h1 : base ≤ 1099511627776) : Calls Tryz.prog 14 #[.string s, .int .i64 base] w (AnsT (outT base s) w) := by
  have HS := Lib.hid hs
  have hbs : (s.size : Int) ≤ 100000 := by omega
  clear hs
  go_enter Tryz.func14, Tryz.ntmps14
  go_wp2
  go_loopw [7, 8] (fun v pv wr => ∃ (l : List El) (p : Nat) (r : List UInt8), pv = .int .i64 (p : Int) ∧ Hid ((encT l).length = p) ∧ Hid (Lst w.heap.size wr v (placed base l)) ∧ Hid (okT l) ∧ Hid (s.data.toList = encT l ++ r) ∧ Hid (Below w.heap.size w wr)) (fun _ pv _ => s.size - (intOf pv).toNat)
  case atStart => exact ⟨[], 0, s.data.toList, rfl, Lib.hid rfl, Lib.hid (Lst.nil _ _), Lib.hid okT_nil, Lib.hid rfl, Lib.hid (Below.refl _ _)⟩
  case round =>
    obtain ⟨l, p, r, rfl, HP, HL, HO, HE, HB⟩ := hrel
    have HZ : Hid (s.size = p + r.length) := Lib.hid (by rw [size_of HE.out, List.length_append, HP.out])
    have hp0 : 0 ≤ (p : Int) := Int.natCast_nonneg _
    have hp1 : (p : Int) ≤ 100000 := by have := HZ.out; have := HS.out; omega
    by_cases hu : r = []
    · subst hu
      have HY := Lib.hid (out_yes (base := base) HO.out (by rw [HE.out, List.append_nil]))
      have e1 : ¬ (p : Int) < (s.size : Int) := by have := HZ.out; simp only [List.length_nil] at this; omega
      obtain ⟨a, c, rfl⟩ := HL.out.slice
      have HW := Lib.hid HL.out
      clear HL HP HZ HE
      go_wp2
      go_ret3
      exact AnsT.yes HY.out rfl HW.out HB.out
    obtain ⟨k1, k2, k3⟩ := F1.step HE.out HP.out hu
    have e1 : (p : Int) < (s.size : Int) := by omega
    have i0 := idx s p (p : Int) rfl (by omega)
    have HCC : Hid ((placed base l).length ≤ 100000) := Lib.hid (by rw [placed_len]; have := HS.out; have := HP.out; have := HZ.out; have := len_le l; omega)
    rcases k3 with ⟨b0, r', hc⟩ | ⟨b0, k4, hc⟩ | ⟨n, b0, k4, b1, kn, ⟨k5, hc⟩ | ⟨k5, x, r', hc, x1, x2, x3⟩⟩
    · rw [b0] at i0
      obtain ⟨ho, he⟩ := cut1_some hc
      have HO := Lib.hid (okT_snoc HO.out ho)
      have HE : Hid (s.data.toList = encT (l ++ [(⟨#[]⟩, 0)]) ++ r') := Lib.hid (by rw [HE.out, he, encT_snoc, List.append_assoc])
      have HPL : Hid (placed base (l ++ [(⟨#[]⟩, 0)]) = placed base l ++ [(base + (p : Int), (⟨#[]⟩, 0))]) := Lib.hid (by rw [placed_snoc, HP.out])
      have HP2 : Hid ((encT (l ++ [(⟨#[]⟩, 0)])).length = p + 1) := Lib.hid (by rw [encT_snoc, List.length_append, HP.out]; rfl)
      have HM : Hid (s.size - p > s.size - (p + 1)) := Lib.hid (by omega)
      have HLA := Lib.hid (HL.out.below (balloc (Below.refl _ wr) (.cells (cellsT (base + (p : Int), (⟨#[]⟩, 0))) 31)))
      have HBA := Lib.hid (balloc HB.out (.cells (cellsT (base + (p : Int), (⟨#[]⟩, 0))) 31))
      clear hu hc ho he HZ HP b0 k1 k2 HL HB
      generalize placed base l = lp at *
      go_upto_region 6 with (first | (refine wpList_builtK rfl 31 _ rfl (cellsT (base + (p : Int), (⟨#[]⟩, 0))) (by kernel_rfl) ?_) | (refine bs_one rfl _ rfl (m := (base + (p : Int), (⟨#[]⟩, 0))) rfl ?_) | (at_builtin; refine app_one rfl _ _ rfl w.heap.size _ lp (base + (p : Int), (⟨#[]⟩, 0)) wr.heap.size 1 rfl HLA.out rfl (cells_new (base + (p : Int), (⟨#[]⟩, 0)) wr) HCC.out HBA.out.size ?_))
      intro v' w' hl hgr hb
      have HL := Lib.hid hl
      have HB := Lib.hid (HBA.out.trans hb)
      rw [← HPL.out] at HL
      clear hl hgr hb HLA HBA HPL HCC i0
      go_wp2
      go_roundw
      case rel => exact ⟨l ++ [(⟨#[]⟩, 0)], p + 1, r', by push_cast; rfl, HP2, HL, HO, HE, HB⟩
      case measure => have := HM.out; simp only [intOf]; omega
    · have HY := Lib.hid (out_no (base := base) HO.out HE.out hc hu)
      rw [HP.out] at HY
      have n0 := bt_nn s p
      have l0 := bt_lt s p
      have h2 : (s.size : Int) - (p : Int) < 2 := by omega
      clear hu hc HZ HP HE HO k1 k2 k4 HL HCC
      generalize bt s p = b at *
      go_wp2
      go_ret3
      exact AnsT.no HY.out HB.out
    · have HY := Lib.hid (out_no (base := base) HO.out HE.out hc hu)
      rw [HP.out] at HY
      have n0 := bt_nn s p
      have l0 := bt_lt s p
      have j1 := idx s (p + 1) ((p : Int) + 1) (by push_cast; rfl) (by omega)
      rw [b1] at j1
      have v1 := conv8 (n : Int) (by omega) (by omega)
      have h2 : ¬ (s.size : Int) - (p : Int) < 2 := by omega
      have h4 : (s.size : Int) - (p : Int) - 2 < (n : Int) := by omega
      have kn0 : 0 ≤ (n : Int) := by omega
      have kn1 : (n : Int) ≤ 255 := by omega
      clear hu hc HZ HP HE HO k1 k2 k4 k5 kn b1 HL HCC
      generalize bt s p = b at *
      generalize (n : Int) = ni at *
      go_wp2
      go_ret3
      exact AnsT.no HY.out HB.out
    · obtain ⟨ho, he⟩ := cut1_some hc
      have hl : (enc1 x).length = 2 + n := by rw [enc1_len, if_neg (by rw [x1]; exact b0), x3]
      have HO := Lib.hid (okT_snoc HO.out ho)
      have HE : Hid (s.data.toList = encT (l ++ [x]) ++ r') := Lib.hid (by rw [HE.out, he, encT_snoc, List.append_assoc])
      have HPL : Hid (placed base (l ++ [x]) = placed base l ++ [(base + (p : Int), x)]) := Lib.hid (by rw [placed_snoc, HP.out])
      have HP2 : Hid ((encT (l ++ [x])).length = p + 2 + n) := Lib.hid (by rw [encT_snoc, List.length_append, HP.out, hl]; omega)
      have HM : Hid (s.size - p > s.size - (p + 2 + n)) := Lib.hid (by omega)
      have n0 := bt_nn s p
      have l0 := bt_lt s p
      have j1 := idx s (p + 1) ((p : Int) + 1) (by push_cast; rfl) (by omega)
      rw [b1] at j1
      have v1 := conv8 (n : Int) (by omega) (by omega)
      have v0 := conv8 (bt s p) n0 l0
      have h2 : ¬ (s.size : Int) - (p : Int) < 2 := by omega
      have h4 : ¬ (s.size : Int) - (p : Int) - 2 < (n : Int) := by omega
      have kn0 : 0 ≤ (n : Int) := by omega
      have kn1 : (n : Int) ≤ 255 := by omega
      have s2 := sl_m s ((p : Int) + 2) ((p : Int) + 2 + (n : Int)) (p + 2) (p + 2 + n) (by push_cast; rfl) (by push_cast; rfl) (by omega) (by omega)
      have HX := Lib.hid (show cellsT (base + (p : Int), x) = #[.int .i64 x.2, .int .i64 (base + (p : Int)), .string x.1] from rfl)
      rw [x1, x2] at HX
      clear hu hc ho he hl HZ HP k1 k2 k4 k5 kn b1 x1 x2 x3
      generalize bt s p = b at *
      generalize s.extract (p + 2) (p + 2 + n) = dd at *
      generalize placed base l = lp at *
      go_upto_region 10 with fail
      have q1 : IntKind.i64.wrap ((p : Int) + 2) = (p : Int) + 2 := IntWalk.i64_in _ (by omega)
      have q2 : IntKind.i64.wrap ((p : Int) + 2 + (n : Int)) = (p : Int) + 2 + (n : Int) := IntWalk.i64_in _ (by omega)
      have q3 : wrap64 ((p : Int) + 2) = (p : Int) + 2 := IntWalk.wrap64_in _ (by omega)
      have q4 : wrap64 ((p : Int) + 2 + (n : Int)) = (p : Int) + 2 + (n : Int) := IntWalk.wrap64_in _ (by omega)
      have q5 : IntKind.i64.wrap (base + (p : Int)) = base + (p : Int) := IntWalk.i64_in _ (by omega)
      have q6 : wrap64 (base + (p : Int)) = base + (p : Int) := IntWalk.wrap64_in _ (by omega)
      refine wp_region_held_drew (S := fun _ => True) (by kernel_rfl) trivial (fun hS => ?_)
      have HL := Lib.hid (show Lst w.heap.size wr.drew u7 lp from HL.out)
      have HB := Lib.hid (HB.out.drew)
      generalize wr.drew = w1 at *
      have HLA := Lib.hid (HL.out.below (balloc (Below.refl _ w1) (.cells (cellsT (base + (p : Int), x)) 31)))
      have HBA := Lib.hid (balloc HB.out (.cells (cellsT (base + (p : Int), x)) 31))
      refine H.tk (i := 0) (v := ?v0) ?h0 hS ?_
      case h0 => (intro w hw; go_simp; first | done | (with_reducible rfl))
      try simp only [Act.put, List.setIfInBounds_toArray, List.set_cons_zero, List.set_cons_succ]
      refine H.tk (i := 1) (v := ?v1) ?h1 hS ?_
      case h1 => (intro w hw; go_simp; first | done | (with_reducible rfl))
      try simp only [Act.put, List.setIfInBounds_toArray, List.set_cons_zero, List.set_cons_succ]
      refine H.tk (i := 2) (v := ?v2) ?h2 hS ?_
      case h2 => (intro w hw; go_simp; first | done | (with_reducible rfl))
      try simp only [Act.put, List.setIfInBounds_toArray, List.set_cons_zero, List.set_cons_succ]
      refine H.tk (i := 3) (v := ?v3) ?h3 hS ?_
      case h3 => (intro w hw; go_simp; first | done | (with_reducible rfl))
      try simp only [Act.put, List.setIfInBounds_toArray, List.set_cons_zero, List.set_cons_succ]
      refine H.tk (i := 4) (v := ?v4) ?h4 hS ?_
      case h4 => (intro w hw; go_simp; first | done | (with_reducible rfl))
      try simp only [Act.put, List.setIfInBounds_toArray, List.set_cons_zero, List.set_cons_succ]
      refine H.tk (i := 5) (v := ?v5) ?h5 hS ?_
      case h5 => (intro w hw; go_simp; first | done | (with_reducible rfl))
      try simp only [Act.put, List.setIfInBounds_toArray, List.set_cons_zero, List.set_cons_succ]
      refine H.tk (i := 6) (v := ?v6) ?h6 hS ?_
      case h6 => (intro w hw; go_simp; first | done | (with_reducible rfl))
      try simp only [Act.put, List.setIfInBounds_toArray, List.set_cons_zero, List.set_cons_succ]
      refine H.tk (i := 7) (v := ?v7) ?h7 hS ?_
      case h7 => (intro w hw; go_simp; first | done | (with_reducible rfl))
      try simp only [Act.put, List.setIfInBounds_toArray, List.set_cons_zero, List.set_cons_succ]
      refine H.tk (i := 8) (v := ?v8) ?h8 hS ?_
      case h8 => (intro w hw; go_simp; first | done | (with_reducible rfl))
      try simp only [Act.put, List.setIfInBounds_toArray, List.set_cons_zero, List.set_cons_succ]
      refine H.tk (i := 9) (v := ?v9) ?h9 hS ?_
      case h9 => (intro w hw; go_simp; first | done | (with_reducible rfl))
      try simp only [Act.put, List.setIfInBounds_toArray, List.set_cons_zero, List.set_cons_succ]
      refine H.tk (i := 10) (v := ?v10) ?h10 hS ?_
      case h10 => (intro w hw; go_simp; first | done | (with_reducible rfl))
      try simp only [Act.put, List.setIfInBounds_toArray, List.set_cons_zero, List.set_cons_succ]
      refine H.tk (i := 11) (v := ?v11) ?h11 hS ?_
      case h11 => (intro w hw; go_simp; first | done | (with_reducible rfl))
      try simp only [Act.put, List.setIfInBounds_toArray, List.set_cons_zero, List.set_cons_succ]
      refine H.tk (i := 12) (v := ?v12) ?h12 hS ?_
      case h12 => (intro w hw; go_simp; first | done | (with_reducible rfl))
      try simp only [Act.put, List.setIfInBounds_toArray, List.set_cons_zero, List.set_cons_succ]
      refine H.tk (i := 13) (v := ?v13) ?h13 hS ?_
      case h13 => (intro w hw; go_simp; first | done | (with_reducible rfl))
      try simp only [Act.put, List.setIfInBounds_toArray, List.set_cons_zero, List.set_cons_succ]
      refine H.tk (i := 14) (v := ?v14) ?h14 hS ?_
      case h14 => (intro w hw; go_simp; first | done | (with_reducible rfl))
      try simp only [Act.put, List.setIfInBounds_toArray, List.set_cons_zero, List.set_cons_succ]
      refine H.tk (i := 15) (v := ?v15) ?h15 hS ?_
      case h15 => (intro w hw; go_simp; first | done | (with_reducible rfl))
      try simp only [Act.put, List.setIfInBounds_toArray, List.set_cons_zero, List.set_cons_succ]
      refine H.tk (i := 16) (v := .agg (cellsT (base + (p : Int), x))) ?h16 hS ?_
      case h16 => rw [HX.out]; exact fun w _ => ex_built rfl (by kernel_rfl)
      try simp only [Act.put, List.setIfInBounds_toArray, List.set_cons_zero, List.set_cons_succ]
      refine H.bsT (i := 17) (m := (base + (p : Int), x)) (by simp only [List.getElem?_toArray, List.getElem?_cons_succ, List.getElem?_cons_zero]; rfl) (by kernel_rfl) (by kernel_rfl) rfl _ rfl rfl trivial ?_
      try simp only [Act.put, List.setIfInBounds_toArray, List.set_cons_zero, List.set_cons_succ]
      refine H.appT (i := 18) (by simp only [List.getElem?_toArray, List.getElem?_cons_succ, List.getElem?_cons_zero]; rfl) (by kernel_rfl) (by kernel_rfl) rfl (.tmp 53) (.tmp 70) rfl w.heap.size _ lp (base + (p : Int), x) w1.heap.size 1 rfl HLA.out rfl (cells_new (base + (p : Int), x) w1) HCC.out HBA.out.size (fun _ _ => trivial) ?_
      intro v' w' hl _ hb
      try simp only [Act.put, List.setIfInBounds_toArray, List.set_cons_zero, List.set_cons_succ]
      refine H.tk (i := 19) (v := ?v19) ?h19 hS ?_
      case h19 => (intro w hw; go_simp; first | done | (with_reducible rfl))
      try simp only [Act.put, List.setIfInBounds_toArray, List.set_cons_zero, List.set_cons_succ]
      refine wpAnyH_done (by kernel_rfl) ?_ _
      have HL := Lib.hid hl
      have HB := Lib.hid (HBA.out.trans hb)
      rw [← HPL.out] at HL
      clear hl hb HLA HBA HPL HCC HX s2 i0 j1 v0 v1
      go_wp2
      go_roundw
      case rel => exact ⟨l ++ [x], p + 2 + n, r', by push_cast; rfl, HP2, HL, HO, HE, HB⟩
      case measure => have := HM.out; simp only [intOf]; omega
end Go.Proofs.YtpkmpinbpfblfaaGreatDoor.F5
namespace Go.Proofs.YtpkmpinbpfblfaaGreatDoor.S6
open Go.ChangeShapes Go.WideShapes Go.ChangeAt Go.RowKit
open Go.Proofs.YtpkmpinbpfblfaaGreatDoor.Ms
open Go.Proofs.YtpkmpinbpfblfaaGreatDoor.Cnt
open Go.Proofs.YtpkmpinbpfblfaaGreatDoor.S1
open Go.Proofs.YtpkmpinbpfblfaaGreatDoor.S5
open Go.Proofs.YtpkmpinbpfblfaaGreatDoor.Hs
open Go.Proofs.YtpkmpinbpfblfaaGreatDoor.Hx (ex_built)
open Go.Proofs.YtpkmpinbpfblfaaGreatDoor.F1 (enc1 encT outT placed placed_len okT size_of len_le)
open Go.Proofs.YtpkmpinbpfblfaaGreatDoor.F5 (rsplit_own)
open Go.Proofs.YtpkmpinbpfblfaaGreatDoor.Tl (TRow cellsT indexT add_two)
open Go.Proofs.YtpkmpinbpfblfaaGreatDoor.Sx (cellsS Lst cells_new H.bsS H.appS)
set_option linter.unusedVariables false
set_option maxRecDepth 100000
set_option maxRecDepth 100000

/-- What the loads read. -/
def Sl (p : Addr) (k : Nat) (d : ByteArray) (n : Int) (W : World) : Prop :=
  W.cell? (p.add (k * 3)) = some (.int .i64 n) ∧ W.cell? ⟨(p.add (k * 3)).block, (p.add (k * 3)).off + 2, none⟩ = some (.string d)
theorem Sl.far {B : Nat} {p : Addr} {k : Nat} {d : ByteArray} {n : Int} {W W' : World} (h : Sl p k d n W) (hb : Below B W W') (hp : p.block < B) : Sl p k d n W' :=
  ⟨by rw [hb.cell (by rw [add_block]; exact hp)]; exact h.1, by rw [hb.cell (by show (p.add (k * 3)).block < _; rw [add_block]; exact hp)]; exact h.2⟩

set_option maxHeartbeats 6400000 in
theorem rget_own (s : ByteArray) (w : World) (hs : s.size ≤ 100000) : Calls Tryz.prog 53 #[.string s] w (AnsS (outS s) w) := by
  have P1 := Lib.hid (rsplit_own s 0 w hs (by omega) (by omega))
  rcases outS_cases s with ⟨l, ho, he, e, hk⟩ | ⟨p, e, hk⟩
  rotate_left
  · have HY := Lib.hid hk
    rw [e] at P1
    clear e hk hs
    go_enter Tryz.func53, Tryz.ntmps53
    go_wp2_with fail
    refine P1.out.mono ?_
    rintro r w1 ⟨a1, c1, rfl, h1, hb⟩
    have HB := Lib.hid hb
    clear h1 hb P1
    dsimp only [List.length_nil]
    go_wp2
    go_ret3
    exact AnsS.no HY.out HB.out
  have HZ := size_of he
  have hls := len_le l
  have HQ := Lib.hid (show bytesN (keep l) ≤ 100000 by have := keep_size l; omega)
  have HK := Lib.hid (show (keep l).length ≤ 100000 by have := keep_len l; omega)
  have HP := Lib.hid (show (placed 0 l).length ≤ 100000 by rw [placed_len]; omega)
  have HD := Lib.hid (placed_snd l 0)
  have HE := Lib.hid hk
  rw [e] at P1
  clear e hk hs ho he HZ hls
  go_enter Tryz.func53, Tryz.ntmps53
  go_wp2_with fail
  refine P1.out.mono ?_
  rintro r w1 ⟨a, c, rfl, h1, hb⟩
  have HL := Lib.hid h1.row
  have HB1 := Lib.hid hb
  clear h1 hb P1
  dsimp only
  generalize placed 0 l = lt at *
  go_wp2
  go_loopw [8, 9, 10] (fun v kn i wr => ∃ k : Nat, k ≤ lt.length ∧ i = .int .i64 k ∧ kn = .bool (knownB (els lt k)) ∧ Hid (Lst w1.heap.size wr v (keep (els lt k))) ∧ Hid (Below w1.heap.size w1 wr)) (fun _ _ i _ => lt.length - (intOf i).toNat)
  case atStart => exact ⟨0, Nat.zero_le _, rfl, by rw [els_zero]; rfl, Lib.hid (by rw [els_zero]; exact Lst.nil _ _), Lib.hid (Below.refl _ _)⟩
  case round =>
    obtain ⟨k, hk, rfl, rfl, HV, HB⟩ := hrel
    by_cases hlt : k < lt.length
    · obtain ⟨p, rfl, hp, -, -, -⟩ := HL.out k hlt
      have HH := Lib.hid hp
      clear hp
      obtain ⟨p', hpp, hp, c0, c1, c2⟩ := (HL.out.below HB.out) k hlt
      cases hpp
      have ix := fun W => indexT p lt.length c k hlt W
      have HT := Lib.hid (els_snoc lt k hlt)
      have hk2 : (k : Int) ≤ 100000 := by have := HP.out; omega
      have HC : Hid ((keep (els lt k)).length ≤ 100000) := Lib.hid (by have := HP.out; have := keep_len (els lt k); have := els_len lt k; omega)
      rw [add_two] at c2
      generalize lt[k] = u at *
      generalize els lt k = lk at *
      obtain ⟨at0, d, n⟩ := u
      simp only [] at c0 c1 c2 HT
      clear c1
      by_cases h1 : n < 2
      · have hk0 : keepB (d, n) = false := by unfold keepB; simp; omega
        have e1 := keep_no hk0 lk
        have e2 : knownB (lk ++ [(d, n)]) = knownB lk := by rw [known_snoc]; simp; omega
        rw [← HT.out] at e1 e2
        rw [← e1] at HV
        have E2 := Lib.hid e2
        clear e1 e2 hk0 c2
        have h1' : ¬ 2 ≤ n := by omega
        have h2' : n ≤ 127 := by omega
        generalize knownB lk = b0 at *
        cases b0
        · go_wp2
          go_roundw
          case rel => exact ⟨k + 1, hlt, by go_num, bool_val E2.out.symm, HV, HB⟩
          case measure => simp [intOf]; omega
        · go_wp2
          go_roundw
          case rel => exact ⟨k + 1, hlt, by go_num, bool_val E2.out.symm, HV, HB⟩
          case measure => simp [intOf]; omega
      have h1' : 2 ≤ n := by omega
      by_cases h2 : 127 < n
      · have hk0 : keepB (d, n) = false := by unfold keepB; simp; omega
        have e1 := keep_no hk0 lk
        have e2 : knownB (lk ++ [(d, n)]) = false := by rw [known_snoc]; simp; omega
        rw [← HT.out] at e1 e2
        rw [← e1] at HV
        have E2 := Lib.hid e2
        clear e1 e2 hk0 c2
        have h2' : ¬ n ≤ 127 := by omega
        generalize knownB lk = b0 at *
        cases b0
        · go_wp2
          go_roundw
          case rel => exact ⟨k + 1, hlt, by go_num, bool_val E2.out.symm, HV, HB⟩
          case measure => simp [intOf]; omega
        · go_wp2
          go_roundw
          case rel => exact ⟨k + 1, hlt, by go_num, bool_val E2.out.symm, HV, HB⟩
          case measure => simp [intOf]; omega
      have h2' : n ≤ 127 := by omega
      have hk0 : keepB (d, n) = true := by unfold keepB; simp; omega
      have e1 := keep_yes hk0 lk
      have e2 : knownB (lk ++ [(d, n)]) = knownB lk := by rw [known_snoc]; simp; omega
      rw [← HT.out] at e1 e2
      have E1 := Lib.hid e1
      have E2 := Lib.hid e2
      have HS0 : Hid (Sl p k d n wr.drew) := Lib.hid ⟨c0, c2⟩
      have hkl : (k : Int) < (lt.length : Int) := by omega
      clear e1 e2 hk0 hp
      generalize keep lk = kl at *
      generalize knownB lk = b0 at *
      go_upto_region 10 with fail
      refine wp_region_held_drew (S := Sl p k d n) (by kernel_rfl) HS0.out (fun hS => ?_)
      have HV := Lib.hid (show Lst w1.heap.size wr.drew u8 kl from HV.out)
      have HB := Lib.hid HB.out.drew
      clear HS0 c0 c2
      generalize wr.drew = V at *
      have HLA := Lib.hid (HV.out.below (balloc (Below.refl _ V) (.cells (cellsS (d, n)) 73)))
      have HBA := Lib.hid (HB.out.alloc HB.out.size (.cells (cellsS (d, n)) 73))
      refine H.tk (i := 0) (v := ?v0) ?h0 hS ?_
      case h0 => (intro w hw; go_simp; first | done | (with_reducible rfl))
      try simp only [Act.put, List.setIfInBounds_toArray, List.set_cons_zero, List.set_cons_succ]
      refine H.tk (i := 1) (v := ?v1) ?h1 hS ?_
      case h1 => (intro w hw; go_simp; first | done | (with_reducible rfl))
      try simp only [Act.put, List.setIfInBounds_toArray, List.set_cons_zero, List.set_cons_succ]
      refine H.tk (i := 2) (v := ?v2) ?h2 hS ?_
      case h2 => (intro w hw; go_simp; first | done | (with_reducible rfl))
      try simp only [Act.put, List.setIfInBounds_toArray, List.set_cons_zero, List.set_cons_succ]
      refine H.tk (i := 3) (v := ?v3) ?h3 hS ?_
      case h3 => (intro w hw; go_simp; first | done | (with_reducible rfl))
      try simp only [Act.put, List.setIfInBounds_toArray, List.set_cons_zero, List.set_cons_succ]
      refine H.tk (i := 4) (v := ?v4) ?h4 hS ?_
      case h4 => (intro w hw; go_simp; first | done | (with_reducible rfl))
      try simp only [Act.put, List.setIfInBounds_toArray, List.set_cons_zero, List.set_cons_succ]
      refine H.tk (i := 5) (v := ?v5) ?h5 hS ?_
      case h5 => (intro w hw; obtain ⟨c0, c2⟩ := hw; go_simp; first | done | (with_reducible rfl))
      try simp only [Act.put, List.setIfInBounds_toArray, List.set_cons_zero, List.set_cons_succ]
      refine H.tk (i := 6) (v := ?v6) ?h6 hS ?_
      case h6 => (intro w hw; go_simp; first | done | (with_reducible rfl))
      try simp only [Act.put, List.setIfInBounds_toArray, List.set_cons_zero, List.set_cons_succ]
      refine H.tk (i := 7) (v := ?v7) ?h7 hS ?_
      case h7 => (intro w hw; go_simp; first | done | (with_reducible rfl))
      try simp only [Act.put, List.setIfInBounds_toArray, List.set_cons_zero, List.set_cons_succ]
      refine H.tk (i := 8) (v := ?v8) ?h8 hS ?_
      case h8 => (intro w hw; go_simp; first | done | (with_reducible rfl))
      try simp only [Act.put, List.setIfInBounds_toArray, List.set_cons_zero, List.set_cons_succ]
      refine H.tk (i := 9) (v := ?v9) ?h9 hS ?_
      case h9 => (intro w hw; go_simp; first | done | (with_reducible rfl))
      try simp only [Act.put, List.setIfInBounds_toArray, List.set_cons_zero, List.set_cons_succ]
      refine H.tk (i := 10) (v := ?v10) ?h10 hS ?_
      case h10 => (intro w hw; obtain ⟨c0, c2⟩ := hw; go_simp; first | done | (with_reducible rfl))
      try simp only [Act.put, List.setIfInBounds_toArray, List.set_cons_zero, List.set_cons_succ]
      refine H.tk (i := 11) (v := .agg (cellsS (d, n))) ?h11 hS ?_
      case h11 => exact fun w _ => ex_built rfl (by kernel_rfl)
      try simp only [Act.put, List.setIfInBounds_toArray, List.set_cons_zero, List.set_cons_succ]
      refine H.bsS (i := 12) (m := (d, n)) (by simp only [List.getElem?_toArray, List.getElem?_cons_succ, List.getElem?_cons_zero]; rfl) (by kernel_rfl) (by kernel_rfl) rfl _ rfl rfl (hS.far ((Below.refl w1.heap.size V).alloc HB.out.size (.cells (cellsS (d, n)) 73)) HH.out) ?_
      try simp only [Act.put, List.setIfInBounds_toArray, List.set_cons_zero, List.set_cons_succ]
      have hS := hS.far ((Below.refl w1.heap.size V).alloc HB.out.size (.cells (cellsS (d, n)) 73)) HH.out
      refine H.appS (i := 13) (by simp only [List.getElem?_toArray, List.getElem?_cons_succ, List.getElem?_cons_zero]; rfl) (by kernel_rfl) (by kernel_rfl) rfl (.tmp 40) (.tmp 52) rfl w1.heap.size _ kl (d, n) V.heap.size 1 rfl HLA.out rfl (cells_new (d, n) V) HC.out HBA.out.size (fun W' hg => hS.far ((Below.refl w1.heap.size _).grown hg HBA.out.size (fun k hk => (World.ownsRow.lt HLA.out k hk).1)) HH.out) ?_
      intro v' w' hl2 hg hb
      have hS := hS.far hb HH.out
      try simp only [Act.put, List.setIfInBounds_toArray, List.set_cons_zero, List.set_cons_succ]
      refine H.tk (i := 14) (v := ?v14) ?h14 hS ?_
      case h14 => (intro w hw; go_simp; first | done | (with_reducible rfl))
      try simp only [Act.put, List.setIfInBounds_toArray, List.set_cons_zero, List.set_cons_succ]
      refine wpAnyH_done (by kernel_rfl) ?_ _
      obtain ⟨c0, c2⟩ := hS
      have HV : Hid (Lst w1.heap.size w' v' (keep (els lt (k + 1)))) := Lib.hid (by rw [E1.out]; exact hl2)
      have HB := Lib.hid (HBA.out.trans hb)
      clear hl2 hb hg HLA HBA c2
      cases b0
      · go_wp2
        go_roundw
        case rel => exact ⟨k + 1, hlt, by go_num, bool_val E2.out.symm, HV, HB⟩
        case measure => simp [intOf]; omega
      · go_wp2
        go_roundw
        case rel => exact ⟨k + 1, hlt, by go_num, bool_val E2.out.symm, HV, HB⟩
        case measure => simp [intOf]; omega
    · obtain rfl : k = lt.length := by omega
      rw [els_all, HD.out] at *
      obtain ⟨a2, c2, rfl⟩ := HV.out.slice
      have P3 := Lib.hid (rbytes_any a2 c2 (keep l) wr HV.out.row (by have := HK.out; omega) (by have := HQ.out; omega))
      have HV := Lib.hid (lst_mono HV.out HB1.out.size)
      have HB := Lib.hid (HB1.out.trans (HB.out.mono HB1.out.size))
      have HE := HE.out
      rcases HE with ⟨hq, e⟩ | ⟨hq, e⟩
      · have HY := Lib.hid e
        have hq2 : ((bytesN (keep l) : Nat) : Int) ≤ 200 := by omega
        clear hq e
        generalize ((bytesN (keep l) : Nat) : Int) = n at *
        generalize hg : keep l = kl at *
        generalize hgk : knownB l = kn at *
        clear hg hgk
        go_wp2_with fail
        refine P3.out.mono ?_
        rintro r w3 ⟨rfl, hb⟩
        have HV := Lib.hid (HV.out.below hb)
        have HB := Lib.hid (bcall HB.out hb)
        clear hb P3
        go_wp2
        go_ret3
        exact AnsS.yes HY.out rfl HV.out HB.out
      · have HY := Lib.hid e
        have hq2 : 200 < ((bytesN (keep l) : Nat) : Int) := by omega
        clear hq e
        generalize ((bytesN (keep l) : Nat) : Int) = n at *
        generalize hg : keep l = kl at *
        clear hg
        go_wp2_with fail
        refine P3.out.mono ?_
        rintro r w3 ⟨rfl, hb⟩
        have HB := Lib.hid (bcall HB.out hb)
        clear hb P3 HV
        go_wp2
        go_ret3
        exact AnsS.no HY.out HB.out
end Go.Proofs.YtpkmpinbpfblfaaGreatDoor.S6
namespace Go.Proofs.YtpkmpinbpfblfaaGreatDoor.K7
open Go.ChangeShapes Go.WideShapes Go.ChangeAt Go.RowKit
open Go.Proofs.YtpkmpinbpfblfaaGreatDoor.Ms
open Go.Proofs.YtpkmpinbpfblfaaGreatDoor.Box
open Go.Proofs.YtpkmpinbpfblfaaGreatDoor.S1
open Go.Proofs.YtpkmpinbpfblfaaGreatDoor.J1
open Go.Proofs.YtpkmpinbpfblfaaGreatDoor.J2 (nil_eq nil_em size_eq)
open Go.Proofs.YtpkmpinbpfblfaaGreatDoor.J4 (shU wpList_loadU wpList_storeU)
open Go.Proofs.YtpkmpinbpfblfaaGreatDoor.An
open Go.Proofs.YtpkmpinbpfblfaaGreatDoor.Tc
open Go.Proofs.YtpkmpinbpfblfaaGreatDoor.K1
open Go.Proofs.YtpkmpinbpfblfaaGreatDoor.Kb
open Go.Proofs.YtpkmpinbpfblfaaGreatDoor.K2
open Go.Proofs.YtpkmpinbpfblfaaGreatDoor.K3 (lgC)
open Go.Proofs.YtpkmpinbpfblfaaGreatDoor.K4
open Go.Proofs.YtpkmpinbpfblfaaGreatDoor.Lk (lgA lgO rlong_any)
open Go.Proofs.YtpkmpinbpfblfaaGreatDoor.F1 (bt bt_nn bt_lt)
open Go.Proofs.YtpkmpinbpfblfaaGreatDoor.F2 (idx sl_m sl_l)
open Go.Proofs.YtpkmpinbpfblfaaGreatDoor.Hx (conv8)
open Go.Proofs.YtpkmpinbpfblfaaGreatDoor.Tl (cellsT)
open Go.Proofs.YtpkmpinbpfblfaaGreatDoor.Bk (Bk Sh alloc_size wpList_loadK wpList_storeK run_loadK results_pair results_one loadVarK wpList_builtK)
open Go.Proofs.YtpkmpinbpfblfaaGreatDoor.Hs
open Go.Proofs.YtpkmpinbpfblfaaGreatDoor.Or (st_yes)
set_option linter.unusedVariables false
set_option maxRecDepth 100000
set_option maxRecDepth 100000
theorem len_any (x : Int) (h0 : 0 ≤ x) (h3 : x ≤ 3) (w : World) : Calls Tryz.prog 51 #[.int .i64 x] w fun e w' => e = .returned (.int .i64 (sizeA x : Int)) ∧ Below w.heap.size w w' := by
  rcases (show x = 0 ∨ x = 1 ∨ x = 2 ∨ x = 3 by omega) with rfl | rfl | rfl | rfl
  all_goals
    go_enter Tryz.func51, Tryz.ntmps51
    go_wp2
    go_ret
    exact ⟨rfl, balloc (Below.refl _ _) _⟩
theorem fixed_any (d : ByteArray) (z : Nat) (zi : Int) (hzi : zi = z) (w : World) (hs : d.size ≤ 100000) (hz : z ≤ 100) :
    Calls Tryz.prog 47 #[.string d, .int .i64 zi] w fun e w' => e = .returned (.tuple #[.bool (fixO d z).1, .int .i64 (fixO d z).2]) ∧ Below w.heap.size w w' := by
  subst hzi
  by_cases h : d.size < z
  · have HY := Lib.hid (fix_short h)
    have h2 : (d.size : Int) < (z : Int) := by omega
    go_enter Tryz.func47, Tryz.ntmps47
    go_wp2
    go_ret2
    exact ⟨by first | (rw [HY.out]; done) | (rw [HY.out]; rfl), Below.refl _ _⟩
  have h2 : ¬ (d.size : Int) < (z : Int) := by omega
  have HY := Lib.hid (fix_long h)
  have PS := Lib.hid (fun V => S6.rget_own (d.extract z d.size) V (by simp; omega))
  have slt := sl_l d (z : Int) z d.size rfl (by omega) rfl
  obtain ⟨⟨l, kn, er⟩, ho⟩ : ∃ q, outS (d.extract z d.size) = q := ⟨_, rfl⟩
  rw [ho] at PS HY
  clear ho h hs hz
  generalize d.extract z d.size = ea at *
  go_enter Tryz.func47, Tryz.ntmps47
  go_wp2_with fail
  refine (PS.out _).mono ?_
  rintro e w1 ⟨qa, qc, rfl, hl, hb⟩
  clear hl
  go_wp2
  go_ret2
  exact ⟨by first | (rw [HY.out]; done) | (rw [HY.out]; rfl), hb⟩
set_option maxHeartbeats 12800000 in
theorem hop_any (c : Kx) (d : ByteArray) (w : World) (hs : d.size ≤ 100000) :
    Calls Tryz.prog 48 #[.agg c.cells, .string d] w fun e w' => e = .returned (.tuple #[.agg (out7 c d).1.cells, .int .i64 (out7 c d).2.2]) ∧ Below w.heap.size w w' := by
  by_cases hz : d.size < 2
  · have HY := Lib.hid (show out7 c d = (c, [], 2) by unfold out7; rw [if_pos hz])
    have hz2 : (d.size : Int) < 2 := by omega
    go_enter Tryz.func48, Tryz.ntmps48
    go_upto_region 1 with fail
    change Code.wp _ _ _ _ ((w.alloc (.cells c.cells 35)).alloc (.cells Kx.zero.cells 35))
    have S0 := Lib.hid ((Bk.Bk.new 35 w c.cells).old (.cells Kx.zero.cells 35))
    have R0 := Bk.Bk.new 35 (w.alloc (.cells c.cells 35)) Kx.zero.cells
    rw [alloc_size] at R0
    have R0 := Lib.hid R0
    have HB := Lib.hid (balloc (balloc (Below.refl _ w) (.cells c.cells 35)) (.cells Kx.zero.cells 35))
    generalize (w.alloc (.cells c.cells 35)).alloc (.cells Kx.zero.cells 35) = W at *
    go_wp2_with (first | (refine wpList_loadX (b := w.heap.size) (m := c) rfl _ rfl rfl S0.out ?_) | (refine wpList_storeX (b := w.heap.size + 1) (m := Kx.zero) (m' := c) rfl _ _ rfl rfl rfl R0.out ?_))
    exact bodyPost_ret (v := .tuple #[.agg (Kx.cells c), .int .i64 2]) (results_pair rfl _ _ (w.heap.size + 1) _ rfl (loadVarK shX (R0.out.put (Kx.cells c)) rfl) (.int .i64 2) rfl) rfl ⟨by first | (rw [HY.out]; done) | (rw [HY.out]; rfl), Box.below_setRow HB.out (by omega) _⟩
  have hz2 : ¬ (d.size : Int) < 2 := by omega
  have i0 := idx d 0 0 rfl (by omega)
  have b0 := bt_nn d 0
  have b1 := bt_lt d 0
  have v0 := conv8 (bt d 0) b0 b1
  by_cases hn : bt d 0 = 0
  · have HY := Lib.hid (show out7 c d = (c, [], 0) by unfold out7; rw [if_neg hz, if_pos (.inl hn)])
    rw [hn] at i0 v0
    clear hn hz hs b0 b1
    go_enter Tryz.func48, Tryz.ntmps48
    go_upto_region 1 with fail
    change Code.wp _ _ _ _ ((w.alloc (.cells c.cells 35)).alloc (.cells Kx.zero.cells 35))
    have S0 := Lib.hid ((Bk.Bk.new 35 w c.cells).old (.cells Kx.zero.cells 35))
    have R0 := Bk.Bk.new 35 (w.alloc (.cells c.cells 35)) Kx.zero.cells
    rw [alloc_size] at R0
    have R0 := Lib.hid R0
    have HB := Lib.hid (balloc (balloc (Below.refl _ w) (.cells c.cells 35)) (.cells Kx.zero.cells 35))
    generalize (w.alloc (.cells c.cells 35)).alloc (.cells Kx.zero.cells 35) = W at *
    go_wp2_with (first | (refine wpList_loadX (b := w.heap.size) (m := c) rfl _ rfl rfl S0.out ?_) | (refine wpList_storeX (b := w.heap.size + 1) (m := Kx.zero) (m' := c) rfl _ _ rfl rfl rfl R0.out ?_))
    exact bodyPost_ret (v := .tuple #[.agg (Kx.cells c), .int .i64 0]) (results_pair rfl _ _ (w.heap.size + 1) _ rfl (loadVarK shX (R0.out.put (Kx.cells c)) rfl) (.int .i64 0) rfl) rfl ⟨by first | (rw [HY.out]; done) | (rw [HY.out]; rfl), Box.below_setRow HB.out (by omega) _⟩
  have hn0 : (bt d 0 == 0) = false := by simpa using hn
  by_cases hn3 : 3 < bt d 0
  · have HY := Lib.hid (show out7 c d = (c, [], 0) by unfold out7; rw [if_neg hz, if_pos (.inr hn3)])
    clear hn hz hs b0 b1
    generalize bt d 0 = y0 at *
    go_enter Tryz.func48, Tryz.ntmps48
    go_upto_region 1 with fail
    change Code.wp _ _ _ _ ((w.alloc (.cells c.cells 35)).alloc (.cells Kx.zero.cells 35))
    have S0 := Lib.hid ((Bk.Bk.new 35 w c.cells).old (.cells Kx.zero.cells 35))
    have R0 := Bk.Bk.new 35 (w.alloc (.cells c.cells 35)) Kx.zero.cells
    rw [alloc_size] at R0
    have R0 := Lib.hid R0
    have HB := Lib.hid (balloc (balloc (Below.refl _ w) (.cells c.cells 35)) (.cells Kx.zero.cells 35))
    generalize (w.alloc (.cells c.cells 35)).alloc (.cells Kx.zero.cells 35) = W at *
    go_wp2_with (first | (refine wpList_loadX (b := w.heap.size) (m := c) rfl _ rfl rfl S0.out ?_) | (refine wpList_storeX (b := w.heap.size + 1) (m := Kx.zero) (m' := c) rfl _ _ rfl rfl rfl R0.out ?_))
    exact bodyPost_ret (v := .tuple #[.agg (Kx.cells c), .int .i64 0]) (results_pair rfl _ _ (w.heap.size + 1) _ rfl (loadVarK shX (R0.out.put (Kx.cells c)) rfl) (.int .i64 0) rfl) rfl ⟨by first | (rw [HY.out]; done) | (rw [HY.out]; rfl), Box.below_setRow HB.out (by omega) _⟩
  rcases (show bt d 0 = 1 ∨ bt d 0 = 2 ∨ bt d 0 = 3 by omega) with e | e | e
  · have HY0 := Lib.hid (show out7 c d = if (fixO d 6).2 = 0 ∧ (fixO d 6).1 = true then ({ c with n0 := lgC 1 (d.extract 2 6) }, [], 0) else (c, [], (fixO d 6).2) from by
      unfold out7
      rw [if_neg hz, if_neg (by omega), e]
      rfl)
    have PL := Lib.hid (fun V => len_any 1 (by decide) (by decide) V)
    have PL := Lib.hid (show ∀ V, Calls Tryz.prog 51 #[.int .i64 1] V fun e w' => e = .returned (.int .i64 4) ∧ Below V.heap.size V w' from PL.out)
    have PX := Lib.hid (fun V => fixed_any d 6 6 rfl V hs (by decide))
    have hfs := fix_short (d := d) (z := 6)
    obtain ⟨⟨kn, er⟩, ho⟩ : ∃ q, fixO d 6 = q := ⟨_, rfl⟩
    rw [ho] at PX HY0 hfs
    rw [e] at i0 v0
    by_cases he : er = 0
    rotate_left
    · have HY := Lib.hid (HY0.out.trans (if_neg (fun h => he h.1)))
      have e1 : (er == 0) = false := by simpa using he
      have e2 : (er != 0) = true := by rw [bne, e1]; rfl
      clear he
      clear HY0 hfs ho hn hn0 hn3 hz hs b0 b1 e
      go_enter Tryz.func48, Tryz.ntmps48
      go_upto_region 1 with fail
      change Code.wp _ _ _ _ ((w.alloc (.cells c.cells 35)).alloc (.cells Kx.zero.cells 35))
      have S0 := Lib.hid ((Bk.Bk.new 35 w c.cells).old (.cells Kx.zero.cells 35))
      have R0 := Bk.Bk.new 35 (w.alloc (.cells c.cells 35)) Kx.zero.cells
      rw [alloc_size] at R0
      have R0 := Lib.hid R0
      have HB := Lib.hid (balloc (balloc (Below.refl _ w) (.cells c.cells 35)) (.cells Kx.zero.cells 35))
      generalize (w.alloc (.cells c.cells 35)).alloc (.cells Kx.zero.cells 35) = W at *
      go_wp2_with fail
      refine (PL.out _).mono ?_
      rintro r w1 ⟨rfl, hb⟩
      have S0 := Lib.hid (S0.out.below hb)
      have R0 := Lib.hid (R0.out.below hb)
      have HB := Lib.hid (bcall HB.out hb)
      clear hb
      go_wp2_with fail
      refine (PX.out _).mono ?_
      rintro r w2 ⟨rfl, hb⟩
      have S0 := Lib.hid (S0.out.below hb)
      have R0 := Lib.hid (R0.out.below hb)
      have HB := Lib.hid (bcall HB.out hb)
      clear hb
      go_wp2_with (first | (refine wpList_loadX (b := w.heap.size) (m := c) rfl _ rfl rfl S0.out ?_) | (refine wpList_storeX (b := w.heap.size + 1) (m := Kx.zero) (m' := c) rfl _ _ rfl rfl rfl R0.out ?_))
      exact bodyPost_ret (v := .tuple #[.agg (Kx.cells c), .int .i64 er]) (results_pair rfl _ _ (w.heap.size + 1) _ rfl (loadVarK shX (R0.out.put (Kx.cells c)) rfl) (.int .i64 er) rfl) rfl ⟨by first | (rw [HY.out]; done) | (rw [HY.out]; rfl), Box.below_setRow HB.out (by omega) _⟩
    subst he
    cases kn with
    | false =>
      have HY := Lib.hid (HY0.out.trans (if_neg (fun h => by cases h.2)))
      clear HY0 hfs ho hn hn0 hn3 hz hs b0 b1 e
      go_enter Tryz.func48, Tryz.ntmps48
      go_upto_region 1 with fail
      change Code.wp _ _ _ _ ((w.alloc (.cells c.cells 35)).alloc (.cells Kx.zero.cells 35))
      have S0 := Lib.hid ((Bk.Bk.new 35 w c.cells).old (.cells Kx.zero.cells 35))
      have R0 := Bk.Bk.new 35 (w.alloc (.cells c.cells 35)) Kx.zero.cells
      rw [alloc_size] at R0
      have R0 := Lib.hid R0
      have HB := Lib.hid (balloc (balloc (Below.refl _ w) (.cells c.cells 35)) (.cells Kx.zero.cells 35))
      generalize (w.alloc (.cells c.cells 35)).alloc (.cells Kx.zero.cells 35) = W at *
      go_wp2_with fail
      refine (PL.out _).mono ?_
      rintro r w1 ⟨rfl, hb⟩
      have S0 := Lib.hid (S0.out.below hb)
      have R0 := Lib.hid (R0.out.below hb)
      have HB := Lib.hid (bcall HB.out hb)
      clear hb
      go_wp2_with fail
      refine (PX.out _).mono ?_
      rintro r w2 ⟨rfl, hb⟩
      have S0 := Lib.hid (S0.out.below hb)
      have R0 := Lib.hid (R0.out.below hb)
      have HB := Lib.hid (bcall HB.out hb)
      clear hb
      go_wp2_with (first | (refine wpList_loadX (b := w.heap.size) (m := c) rfl _ rfl rfl S0.out ?_) | (refine wpList_storeX (b := w.heap.size + 1) (m := Kx.zero) (m' := c) rfl _ _ rfl rfl rfl R0.out ?_))
      exact bodyPost_ret (v := .tuple #[.agg (Kx.cells c), .int .i64 0]) (results_pair rfl _ _ (w.heap.size + 1) _ rfl (loadVarK shX (R0.out.put (Kx.cells c)) rfl) (.int .i64 0) rfl) rfl ⟨by first | (rw [HY.out]; done) | (rw [HY.out]; rfl), Box.below_setRow HB.out (by omega) _⟩
    | true =>
      have HY := Lib.hid (HY0.out.trans (if_pos ⟨rfl, rfl⟩))
      have hzz : 6 ≤ d.size := by
        by_cases h : d.size < 6
        · have := hfs h
          cases this
        · omega
      have sla := sl_m d 2 6 2 6 rfl rfl (by omega) (by omega)
      have HG := Lib.hid (show lgC 1 (d.extract 2 6) = d.extract 2 6 from rfl)
      rw [HG.out] at HY
      clear HG
      generalize d.extract 2 6 = eb at *
      have PF := Lib.hid (fun V => rfam_any 1 V)
      have PF := Lib.hid (show ∀ V, Calls Tryz.prog 83 #[.int .i64 1] V fun e w' => e = .returned (.int .i64 0) ∧ V = w' from PF.out)
      clear HY0 hfs ho hn hn0 hn3 hz hs b0 b1 e
      clear hzz
      go_enter Tryz.func48, Tryz.ntmps48
      go_upto_region 1 with fail
      change Code.wp _ _ _ _ ((w.alloc (.cells c.cells 35)).alloc (.cells Kx.zero.cells 35))
      have S0 := Lib.hid ((Bk.Bk.new 35 w c.cells).old (.cells Kx.zero.cells 35))
      have R0 := Bk.Bk.new 35 (w.alloc (.cells c.cells 35)) Kx.zero.cells
      rw [alloc_size] at R0
      have R0 := Lib.hid R0
      have HB := Lib.hid (balloc (balloc (Below.refl _ w) (.cells c.cells 35)) (.cells Kx.zero.cells 35))
      generalize (w.alloc (.cells c.cells 35)).alloc (.cells Kx.zero.cells 35) = W at *
      go_wp2_with fail
      refine (PL.out _).mono ?_
      rintro r w1 ⟨rfl, hb⟩
      have S0 := Lib.hid (S0.out.below hb)
      have R0 := Lib.hid (R0.out.below hb)
      have HB := Lib.hid (bcall HB.out hb)
      clear hb
      go_wp2_with fail
      refine (PX.out _).mono ?_
      rintro r w2 ⟨rfl, hb⟩
      have S0 := Lib.hid (S0.out.below hb)
      have R0 := Lib.hid (R0.out.below hb)
      have HB := Lib.hid (bcall HB.out hb)
      clear hb
      go_wp2_with fail
      refine (PF.out _).mono ?_
      rintro r w' ⟨rfl, rfl⟩
      have d0 := S0.out.cell 4 _ rfl
      have fd := S0.out.frozen 4
      go_upto_region 14 with fail
      have XS := S0.out.set (i := 4) (v := .string eb) (cs' := Kx.cells { c with n0 := eb }) rfl
      have XR := R0.out.off (p := ⟨w.heap.size, 4, none⟩) (by show w.heap.size + 1 ≠ w.heap.size; omega) (.string eb)
      have XB := HB.out.setCell (p := ⟨w.heap.size, 4, none⟩) (by show w.heap.size ≤ w.heap.size; omega) (.string eb)
      have S0 := Lib.hid XS
      have R0 := Lib.hid XR
      have HB := Lib.hid XB
      clear XS XR XB d0 fd
      generalize World.setCell _ ⟨w.heap.size, 4, none⟩ (.string eb) = W2 at *
      go_wp2_with (first | (refine wpList_loadX (b := w.heap.size) (m := ({ c with n0 := eb } : Kx)) rfl _ rfl rfl S0.out ?_) | (refine wpList_storeX (b := w.heap.size + 1) (m := Kx.zero) (m' := ({ c with n0 := eb } : Kx)) rfl _ _ rfl rfl rfl R0.out ?_))
      exact bodyPost_ret (v := .tuple #[.agg (Kx.cells ({ c with n0 := eb } : Kx)), .int .i64 0]) (results_pair rfl _ _ (w.heap.size + 1) _ rfl (loadVarK shX (R0.out.put (Kx.cells ({ c with n0 := eb } : Kx))) rfl) (.int .i64 0) rfl) rfl ⟨by first | (rw [HY.out]; done) | (rw [HY.out]; rfl), Box.below_setRow HB.out (by omega) _⟩
  · have HY0 := Lib.hid (show out7 c d = if (fixO d 18).2 = 0 ∧ (fixO d 18).1 = true then ({ c with n1 := lgC 2 (d.extract 2 18) }, [], 0) else (c, [], (fixO d 18).2) from by
      unfold out7
      rw [if_neg hz, if_neg (by omega), e]
      rfl)
    have PL := Lib.hid (fun V => len_any 2 (by decide) (by decide) V)
    have PL := Lib.hid (show ∀ V, Calls Tryz.prog 51 #[.int .i64 2] V fun e w' => e = .returned (.int .i64 16) ∧ Below V.heap.size V w' from PL.out)
    have PX := Lib.hid (fun V => fixed_any d 18 18 rfl V hs (by decide))
    have hfs := fix_short (d := d) (z := 18)
    obtain ⟨⟨kn, er⟩, ho⟩ : ∃ q, fixO d 18 = q := ⟨_, rfl⟩
    rw [ho] at PX HY0 hfs
    rw [e] at i0 v0
    by_cases he : er = 0
    rotate_left
    · have HY := Lib.hid (HY0.out.trans (if_neg (fun h => he h.1)))
      have e1 : (er == 0) = false := by simpa using he
      have e2 : (er != 0) = true := by rw [bne, e1]; rfl
      clear he
      clear HY0 hfs ho hn hn0 hn3 hz hs b0 b1 e
      go_enter Tryz.func48, Tryz.ntmps48
      go_upto_region 1 with fail
      change Code.wp _ _ _ _ ((w.alloc (.cells c.cells 35)).alloc (.cells Kx.zero.cells 35))
      have S0 := Lib.hid ((Bk.Bk.new 35 w c.cells).old (.cells Kx.zero.cells 35))
      have R0 := Bk.Bk.new 35 (w.alloc (.cells c.cells 35)) Kx.zero.cells
      rw [alloc_size] at R0
      have R0 := Lib.hid R0
      have HB := Lib.hid (balloc (balloc (Below.refl _ w) (.cells c.cells 35)) (.cells Kx.zero.cells 35))
      generalize (w.alloc (.cells c.cells 35)).alloc (.cells Kx.zero.cells 35) = W at *
      go_wp2_with fail
      refine (PL.out _).mono ?_
      rintro r w1 ⟨rfl, hb⟩
      have S0 := Lib.hid (S0.out.below hb)
      have R0 := Lib.hid (R0.out.below hb)
      have HB := Lib.hid (bcall HB.out hb)
      clear hb
      go_wp2_with fail
      refine (PX.out _).mono ?_
      rintro r w2 ⟨rfl, hb⟩
      have S0 := Lib.hid (S0.out.below hb)
      have R0 := Lib.hid (R0.out.below hb)
      have HB := Lib.hid (bcall HB.out hb)
      clear hb
      go_wp2_with (first | (refine wpList_loadX (b := w.heap.size) (m := c) rfl _ rfl rfl S0.out ?_) | (refine wpList_storeX (b := w.heap.size + 1) (m := Kx.zero) (m' := c) rfl _ _ rfl rfl rfl R0.out ?_))
      exact bodyPost_ret (v := .tuple #[.agg (Kx.cells c), .int .i64 er]) (results_pair rfl _ _ (w.heap.size + 1) _ rfl (loadVarK shX (R0.out.put (Kx.cells c)) rfl) (.int .i64 er) rfl) rfl ⟨by first | (rw [HY.out]; done) | (rw [HY.out]; rfl), Box.below_setRow HB.out (by omega) _⟩
    subst he
    cases kn with
    | false =>
      have HY := Lib.hid (HY0.out.trans (if_neg (fun h => by cases h.2)))
      clear HY0 hfs ho hn hn0 hn3 hz hs b0 b1 e
      go_enter Tryz.func48, Tryz.ntmps48
      go_upto_region 1 with fail
      change Code.wp _ _ _ _ ((w.alloc (.cells c.cells 35)).alloc (.cells Kx.zero.cells 35))
      have S0 := Lib.hid ((Bk.Bk.new 35 w c.cells).old (.cells Kx.zero.cells 35))
      have R0 := Bk.Bk.new 35 (w.alloc (.cells c.cells 35)) Kx.zero.cells
      rw [alloc_size] at R0
      have R0 := Lib.hid R0
      have HB := Lib.hid (balloc (balloc (Below.refl _ w) (.cells c.cells 35)) (.cells Kx.zero.cells 35))
      generalize (w.alloc (.cells c.cells 35)).alloc (.cells Kx.zero.cells 35) = W at *
      go_wp2_with fail
      refine (PL.out _).mono ?_
      rintro r w1 ⟨rfl, hb⟩
      have S0 := Lib.hid (S0.out.below hb)
      have R0 := Lib.hid (R0.out.below hb)
      have HB := Lib.hid (bcall HB.out hb)
      clear hb
      go_wp2_with fail
      refine (PX.out _).mono ?_
      rintro r w2 ⟨rfl, hb⟩
      have S0 := Lib.hid (S0.out.below hb)
      have R0 := Lib.hid (R0.out.below hb)
      have HB := Lib.hid (bcall HB.out hb)
      clear hb
      go_wp2_with (first | (refine wpList_loadX (b := w.heap.size) (m := c) rfl _ rfl rfl S0.out ?_) | (refine wpList_storeX (b := w.heap.size + 1) (m := Kx.zero) (m' := c) rfl _ _ rfl rfl rfl R0.out ?_))
      exact bodyPost_ret (v := .tuple #[.agg (Kx.cells c), .int .i64 0]) (results_pair rfl _ _ (w.heap.size + 1) _ rfl (loadVarK shX (R0.out.put (Kx.cells c)) rfl) (.int .i64 0) rfl) rfl ⟨by first | (rw [HY.out]; done) | (rw [HY.out]; rfl), Box.below_setRow HB.out (by omega) _⟩
    | true =>
      have HY := Lib.hid (HY0.out.trans (if_pos ⟨rfl, rfl⟩))
      have hzz : 18 ≤ d.size := by
        by_cases h : d.size < 18
        · have := hfs h
          cases this
        · omega
      have sla := sl_m d 2 18 2 18 rfl rfl (by omega) (by omega)
      have HG := Lib.hid (show lgC 2 (d.extract 2 18) = d.extract 2 18 from rfl)
      rw [HG.out] at HY
      clear HG
      generalize d.extract 2 18 = eb at *
      have PF := Lib.hid (fun V => rfam_any 2 V)
      have PF := Lib.hid (show ∀ V, Calls Tryz.prog 83 #[.int .i64 2] V fun e w' => e = .returned (.int .i64 1) ∧ V = w' from PF.out)
      clear HY0 hfs ho hn hn0 hn3 hz hs b0 b1 e
      clear hzz
      go_enter Tryz.func48, Tryz.ntmps48
      go_upto_region 1 with fail
      change Code.wp _ _ _ _ ((w.alloc (.cells c.cells 35)).alloc (.cells Kx.zero.cells 35))
      have S0 := Lib.hid ((Bk.Bk.new 35 w c.cells).old (.cells Kx.zero.cells 35))
      have R0 := Bk.Bk.new 35 (w.alloc (.cells c.cells 35)) Kx.zero.cells
      rw [alloc_size] at R0
      have R0 := Lib.hid R0
      have HB := Lib.hid (balloc (balloc (Below.refl _ w) (.cells c.cells 35)) (.cells Kx.zero.cells 35))
      generalize (w.alloc (.cells c.cells 35)).alloc (.cells Kx.zero.cells 35) = W at *
      go_wp2_with fail
      refine (PL.out _).mono ?_
      rintro r w1 ⟨rfl, hb⟩
      have S0 := Lib.hid (S0.out.below hb)
      have R0 := Lib.hid (R0.out.below hb)
      have HB := Lib.hid (bcall HB.out hb)
      clear hb
      go_wp2_with fail
      refine (PX.out _).mono ?_
      rintro r w2 ⟨rfl, hb⟩
      have S0 := Lib.hid (S0.out.below hb)
      have R0 := Lib.hid (R0.out.below hb)
      have HB := Lib.hid (bcall HB.out hb)
      clear hb
      go_wp2_with fail
      refine (PF.out _).mono ?_
      rintro r w' ⟨rfl, rfl⟩
      have d0 := S0.out.cell 5 _ rfl
      have fd := S0.out.frozen 5
      go_upto_region 14 with fail
      have XS := S0.out.set (i := 5) (v := .string eb) (cs' := Kx.cells { c with n1 := eb }) rfl
      have XR := R0.out.off (p := ⟨w.heap.size, 5, none⟩) (by show w.heap.size + 1 ≠ w.heap.size; omega) (.string eb)
      have XB := HB.out.setCell (p := ⟨w.heap.size, 5, none⟩) (by show w.heap.size ≤ w.heap.size; omega) (.string eb)
      have S0 := Lib.hid XS
      have R0 := Lib.hid XR
      have HB := Lib.hid XB
      clear XS XR XB d0 fd
      generalize World.setCell _ ⟨w.heap.size, 5, none⟩ (.string eb) = W2 at *
      go_wp2_with (first | (refine wpList_loadX (b := w.heap.size) (m := ({ c with n1 := eb } : Kx)) rfl _ rfl rfl S0.out ?_) | (refine wpList_storeX (b := w.heap.size + 1) (m := Kx.zero) (m' := ({ c with n1 := eb } : Kx)) rfl _ _ rfl rfl rfl R0.out ?_))
      exact bodyPost_ret (v := .tuple #[.agg (Kx.cells ({ c with n1 := eb } : Kx)), .int .i64 0]) (results_pair rfl _ _ (w.heap.size + 1) _ rfl (loadVarK shX (R0.out.put (Kx.cells ({ c with n1 := eb } : Kx))) rfl) (.int .i64 0) rfl) rfl ⟨by first | (rw [HY.out]; done) | (rw [HY.out]; rfl), Box.below_setRow HB.out (by omega) _⟩
  · have HY0 := Lib.hid (show out7 c d = if (fixO d 10).2 = 0 ∧ (fixO d 10).1 = true then ({ c with n1 := lgC 3 (d.extract 2 10) }, [], 0) else (c, [], (fixO d 10).2) from by
      unfold out7
      rw [if_neg hz, if_neg (by omega), e]
      rfl)
    have PL := Lib.hid (fun V => len_any 3 (by decide) (by decide) V)
    have PL := Lib.hid (show ∀ V, Calls Tryz.prog 51 #[.int .i64 3] V fun e w' => e = .returned (.int .i64 8) ∧ Below V.heap.size V w' from PL.out)
    have PX := Lib.hid (fun V => fixed_any d 10 10 rfl V hs (by decide))
    have hfs := fix_short (d := d) (z := 10)
    obtain ⟨⟨kn, er⟩, ho⟩ : ∃ q, fixO d 10 = q := ⟨_, rfl⟩
    rw [ho] at PX HY0 hfs
    rw [e] at i0 v0
    by_cases he : er = 0
    rotate_left
    · have HY := Lib.hid (HY0.out.trans (if_neg (fun h => he h.1)))
      have e1 : (er == 0) = false := by simpa using he
      have e2 : (er != 0) = true := by rw [bne, e1]; rfl
      clear he
      clear HY0 hfs ho hn hn0 hn3 hz hs b0 b1 e
      go_enter Tryz.func48, Tryz.ntmps48
      go_upto_region 1 with fail
      change Code.wp _ _ _ _ ((w.alloc (.cells c.cells 35)).alloc (.cells Kx.zero.cells 35))
      have S0 := Lib.hid ((Bk.Bk.new 35 w c.cells).old (.cells Kx.zero.cells 35))
      have R0 := Bk.Bk.new 35 (w.alloc (.cells c.cells 35)) Kx.zero.cells
      rw [alloc_size] at R0
      have R0 := Lib.hid R0
      have HB := Lib.hid (balloc (balloc (Below.refl _ w) (.cells c.cells 35)) (.cells Kx.zero.cells 35))
      generalize (w.alloc (.cells c.cells 35)).alloc (.cells Kx.zero.cells 35) = W at *
      go_wp2_with fail
      refine (PL.out _).mono ?_
      rintro r w1 ⟨rfl, hb⟩
      have S0 := Lib.hid (S0.out.below hb)
      have R0 := Lib.hid (R0.out.below hb)
      have HB := Lib.hid (bcall HB.out hb)
      clear hb
      go_wp2_with fail
      refine (PX.out _).mono ?_
      rintro r w2 ⟨rfl, hb⟩
      have S0 := Lib.hid (S0.out.below hb)
      have R0 := Lib.hid (R0.out.below hb)
      have HB := Lib.hid (bcall HB.out hb)
      clear hb
      go_wp2_with (first | (refine wpList_loadX (b := w.heap.size) (m := c) rfl _ rfl rfl S0.out ?_) | (refine wpList_storeX (b := w.heap.size + 1) (m := Kx.zero) (m' := c) rfl _ _ rfl rfl rfl R0.out ?_))
      exact bodyPost_ret (v := .tuple #[.agg (Kx.cells c), .int .i64 er]) (results_pair rfl _ _ (w.heap.size + 1) _ rfl (loadVarK shX (R0.out.put (Kx.cells c)) rfl) (.int .i64 er) rfl) rfl ⟨by first | (rw [HY.out]; done) | (rw [HY.out]; rfl), Box.below_setRow HB.out (by omega) _⟩
    subst he
    cases kn with
    | false =>
      have HY := Lib.hid (HY0.out.trans (if_neg (fun h => by cases h.2)))
      clear HY0 hfs ho hn hn0 hn3 hz hs b0 b1 e
      go_enter Tryz.func48, Tryz.ntmps48
      go_upto_region 1 with fail
      change Code.wp _ _ _ _ ((w.alloc (.cells c.cells 35)).alloc (.cells Kx.zero.cells 35))
      have S0 := Lib.hid ((Bk.Bk.new 35 w c.cells).old (.cells Kx.zero.cells 35))
      have R0 := Bk.Bk.new 35 (w.alloc (.cells c.cells 35)) Kx.zero.cells
      rw [alloc_size] at R0
      have R0 := Lib.hid R0
      have HB := Lib.hid (balloc (balloc (Below.refl _ w) (.cells c.cells 35)) (.cells Kx.zero.cells 35))
      generalize (w.alloc (.cells c.cells 35)).alloc (.cells Kx.zero.cells 35) = W at *
      go_wp2_with fail
      refine (PL.out _).mono ?_
      rintro r w1 ⟨rfl, hb⟩
      have S0 := Lib.hid (S0.out.below hb)
      have R0 := Lib.hid (R0.out.below hb)
      have HB := Lib.hid (bcall HB.out hb)
      clear hb
      go_wp2_with fail
      refine (PX.out _).mono ?_
      rintro r w2 ⟨rfl, hb⟩
      have S0 := Lib.hid (S0.out.below hb)
      have R0 := Lib.hid (R0.out.below hb)
      have HB := Lib.hid (bcall HB.out hb)
      clear hb
      go_wp2_with (first | (refine wpList_loadX (b := w.heap.size) (m := c) rfl _ rfl rfl S0.out ?_) | (refine wpList_storeX (b := w.heap.size + 1) (m := Kx.zero) (m' := c) rfl _ _ rfl rfl rfl R0.out ?_))
      exact bodyPost_ret (v := .tuple #[.agg (Kx.cells c), .int .i64 0]) (results_pair rfl _ _ (w.heap.size + 1) _ rfl (loadVarK shX (R0.out.put (Kx.cells c)) rfl) (.int .i64 0) rfl) rfl ⟨by first | (rw [HY.out]; done) | (rw [HY.out]; rfl), Box.below_setRow HB.out (by omega) _⟩
    | true =>
      have HY := Lib.hid (HY0.out.trans (if_pos ⟨rfl, rfl⟩))
      have hzz : 10 ≤ d.size := by
        by_cases h : d.size < 10
        · have := hfs h
          cases this
        · omega
      have sla := sl_m d 2 10 2 10 rfl rfl (by omega) (by omega)
      have PG := Lib.hid (fun V => rlong_any (d.extract 2 10) V)
      have HG := Lib.hid (show lgA (d.extract 2 10) = lgC 3 (d.extract 2 10) from rfl)
      rw [HG.out] at PG
      clear HG
      generalize d.extract 2 10 = es at *
      generalize lgC 3 es = eb at *
      have PF := Lib.hid (fun V => rfam_any 3 V)
      have PF := Lib.hid (show ∀ V, Calls Tryz.prog 83 #[.int .i64 3] V fun e w' => e = .returned (.int .i64 1) ∧ V = w' from PF.out)
      clear HY0 hfs ho hn hn0 hn3 hz hs b0 b1 e
      clear hzz
      go_enter Tryz.func48, Tryz.ntmps48
      go_upto_region 1 with fail
      change Code.wp _ _ _ _ ((w.alloc (.cells c.cells 35)).alloc (.cells Kx.zero.cells 35))
      have S0 := Lib.hid ((Bk.Bk.new 35 w c.cells).old (.cells Kx.zero.cells 35))
      have R0 := Bk.Bk.new 35 (w.alloc (.cells c.cells 35)) Kx.zero.cells
      rw [alloc_size] at R0
      have R0 := Lib.hid R0
      have HB := Lib.hid (balloc (balloc (Below.refl _ w) (.cells c.cells 35)) (.cells Kx.zero.cells 35))
      generalize (w.alloc (.cells c.cells 35)).alloc (.cells Kx.zero.cells 35) = W at *
      go_wp2_with fail
      refine (PL.out _).mono ?_
      rintro r w1 ⟨rfl, hb⟩
      have S0 := Lib.hid (S0.out.below hb)
      have R0 := Lib.hid (R0.out.below hb)
      have HB := Lib.hid (bcall HB.out hb)
      clear hb
      go_wp2_with fail
      refine (PX.out _).mono ?_
      rintro r w2 ⟨rfl, hb⟩
      have S0 := Lib.hid (S0.out.below hb)
      have R0 := Lib.hid (R0.out.below hb)
      have HB := Lib.hid (bcall HB.out hb)
      clear hb
      go_wp2_with fail
      refine (PG.out _).mono ?_
      rintro r w3 ⟨rfl, hb⟩
      have S0 := Lib.hid (S0.out.below hb)
      have R0 := Lib.hid (R0.out.below hb)
      have HB := Lib.hid (bcall HB.out hb)
      clear hb
      go_wp2_with fail
      refine (PF.out _).mono ?_
      rintro r w' ⟨rfl, rfl⟩
      have d0 := S0.out.cell 5 _ rfl
      have fd := S0.out.frozen 5
      go_upto_region 14 with fail
      have XS := S0.out.set (i := 5) (v := .string eb) (cs' := Kx.cells { c with n1 := eb }) rfl
      have XR := R0.out.off (p := ⟨w.heap.size, 5, none⟩) (by show w.heap.size + 1 ≠ w.heap.size; omega) (.string eb)
      have XB := HB.out.setCell (p := ⟨w.heap.size, 5, none⟩) (by show w.heap.size ≤ w.heap.size; omega) (.string eb)
      have S0 := Lib.hid XS
      have R0 := Lib.hid XR
      have HB := Lib.hid XB
      clear XS XR XB d0 fd
      generalize World.setCell _ ⟨w.heap.size, 5, none⟩ (.string eb) = W2 at *
      go_wp2_with (first | (refine wpList_loadX (b := w.heap.size) (m := ({ c with n1 := eb } : Kx)) rfl _ rfl rfl S0.out ?_) | (refine wpList_storeX (b := w.heap.size + 1) (m := Kx.zero) (m' := ({ c with n1 := eb } : Kx)) rfl _ _ rfl rfl rfl R0.out ?_))
      exact bodyPost_ret (v := .tuple #[.agg (Kx.cells ({ c with n1 := eb } : Kx)), .int .i64 0]) (results_pair rfl _ _ (w.heap.size + 1) _ rfl (loadVarK shX (R0.out.put (Kx.cells ({ c with n1 := eb } : Kx))) rfl) (.int .i64 0) rfl) rfl ⟨by first | (rw [HY.out]; done) | (rw [HY.out]; rfl), Box.below_setRow HB.out (by omega) _⟩
theorem pf_cellX {W : World} {b : Nat} {c : Kx} (h : Bk 35 W b c.cells) {k : Nat} (hk : k < 4) : W.cell? ⟨b, k, none⟩ = some (.string (c.pf k)) := by
  rcases (show k = 0 ∨ k = 1 ∨ k = 2 ∨ k = 3 by omega) with rfl | rfl | rfl | rfl
  · exact h.cell 0 _ rfl
  · exact h.cell 1 _ rfl
  · exact h.cell 2 _ rfl
  · exact h.cell 3 _ rfl
theorem nx_cellX {W : World} {b : Nat} {c : Kx} (h : Bk 35 W b c.cells) {k : Nat} (hk : k < 2) : W.cell? ⟨b, 4 + k, none⟩ = some (.string (c.nx k)) := by
  rcases (show k = 0 ∨ k = 1 by omega) with rfl | rfl
  · exact h.cell 4 _ rfl
  · exact h.cell 5 _ rfl
theorem setP_cellsX (c : Kx) (a : ByteArray) {k : Nat} (hk : k < 4) : c.cells.setIfInBounds k (.string a) = (c.setP k a).cells := by
  rcases (show k = 0 ∨ k = 1 ∨ k = 2 ∨ k = 3 by omega) with rfl | rfl | rfl | rfl <;> rfl
theorem tell_is (c : Kx) (u : Up) : tellB c u = (!decide (u.hav = 0) && (decide (u.metric = 65535) || (!decide (u.ae = 0) && !decide (c.id.size = 0)))) := rfl
/-- The message that is told, with the Update's Subs; none. -/
def toldM (c : Kx) (u : Up) (a : ByteArray) : M := if tellB c u then { updM c u a with sa := u.sa, sc := u.sc } else M.zero
set_option maxHeartbeats 25600000 in
theorem told_any (c : Kx) (d : ByteArray) (u : Up) (a : ByteArray) (w : World) (g : Cnt d u) :
    Calls Tryz.prog 85 #[.agg c.cells, .agg u.cells, .string a] w fun e w' => e = .returned (.tuple #[.agg (toldM c u a).cells, .bool (tellB c u)]) ∧ Below w.heap.size w w' := by
  have HT := Lib.hid (tell_is c u)
  have n1 := nil_eq c.id
  have n2 := nil_em c.id
  have S0 := Lib.hid (((Bk.Bk.new 35 w c.cells).old (.cells u.cells 119)).old (.cells M.zero.cells 43))
  have U0 := Bk.Bk.new 119 (w.alloc (.cells c.cells 35)) u.cells
  rw [alloc_size] at U0
  have U0 := Lib.hid (U0.old (.cells M.zero.cells 43))
  have R0 := Bx.new ((w.alloc (.cells c.cells 35)).alloc (.cells u.cells 119)) M.zero
  rw [alloc_size, alloc_size] at R0
  have R0 := Lib.hid R0
  have HB := Lib.hid (balloc (balloc (balloc (Below.refl _ w) (.cells c.cells 35)) (.cells u.cells 119)) (.cells M.zero.cells 43))
  have PF := Lib.hid (fun V => rfam_any u.ae V)
  obtain ⟨m0, hm0⟩ : ∃ m : M, m = { M.zero with kind := 11, ae := u.ae, pfx := a, plen := u.plen, interval := u.iv, seq := u.seq, metric := u.metric, sa := u.sa, sl := u.sl, sc := u.sc } := ⟨_, rfl⟩
  have HM0 := Lib.hid hm0
  have h0 := g.ae0
  have h3 := g.ae3
  clear hm0 g
  by_cases h7 : u.hav = 0
  · rw [decide_eq_true h7] at HT
    have HT := Lib.hid (show tellB c u = false from HT.out)
    have H7 := Lib.hid h7
    clear h7
    have HK := Lib.hid (show toldM c u a = M.zero by unfold toldM; rw [HT.out]; rfl)
    go_enter Tryz.func85, Tryz.ntmps85
    go_upto_region 1 with fail
    change Code.wp _ _ _ _ (((w.alloc (.cells c.cells 35)).alloc (.cells u.cells 119)).alloc (.cells M.zero.cells 43))
    generalize ((w.alloc (.cells c.cells 35)).alloc (.cells u.cells 119)).alloc (.cells M.zero.cells 43) = W at *
    have c0 := U0.out.cell 0 (.int .i64 u.ae) rfl
    have c2 := U0.out.cell 2 (.int .i64 u.plen) rfl
    have c4 := U0.out.cell 4 (.int .i64 u.iv) rfl
    have c5 := U0.out.cell 5 (.int .i64 u.seq) rfl
    have c6 := U0.out.cell 6 (.int .i64 u.metric) rfl
    have c9 := U0.out.cell 9 (.slice u.sa u.sl.length u.sc) rfl
    have hlt := R0.out.lt
    go_upto_region 2 with (first | (refine wpList_builtK rfl 43 _ rfl (M.cells { M.zero with kind := 11, ae := u.ae, pfx := a, plen := u.plen, interval := u.iv, seq := u.seq, metric := u.metric, sa := u.sa, sl := u.sl, sc := u.sc }) (by kernel_rfl) ?_) | (refine wpList_storeM (b := W.heap.size) (m := M.zero) (m' := { M.zero with kind := 11, ae := u.ae, pfx := a, plen := u.plen, interval := u.iv, seq := u.seq, metric := u.metric, sa := u.sa, sl := u.sl, sc := u.sc }) rfl _ _ rfl rfl rfl (Bx.new W M.zero) ?_))
    change Code.wp _ _ _ _ ((W.alloc (.cells M.zero.cells 43)).setRow W.heap.size (M.cells { M.zero with kind := 11, ae := u.ae, pfx := a, plen := u.plen, interval := u.iv, seq := u.seq, metric := u.metric, sa := u.sa, sl := u.sl, sc := u.sc }))
    rw [World.setRow_alloc_new, ← HM0.out]
    have bel := balloc (Below.refl W.heap.size W) (.cells m0.cells 43)
    have S0 := Lib.hid (S0.out.below bel)
    have U0 := Lib.hid (U0.out.below bel)
    have R0 := Lib.hid (R0.out.below bel)
    have HB := Lib.hid (bcall HB.out bel)
    have X0 := Lib.hid (Bx.new W m0)
    clear bel c0 c2 c4 c5 c6 c9
    generalize W.alloc (.cells m0.cells 43) = Y at *
    generalize W.heap.size = gx at *
    have c0 := U0.out.cell 0 (.int .i64 u.ae) rfl
    have c6 := U0.out.cell 6 (.int .i64 u.metric) rfl
    have c7 := U0.out.cell 7 (.int .i64 u.hav) rfl
    have s6 := S0.out.cell 6 (.string c.id) rfl
    rw [H7.out] at c7
    go_wp2_with (first | (refine wpList_builtK rfl 43 _ rfl (M.cells M.zero) (by kernel_rfl) ?_) | (refine wpList_loadM (b := gx) (m := M.zero) rfl _ rfl rfl X0.out ?_) | (refine wpList_storeM (b := w.heap.size + 1 + 1) (m := M.zero) (m' := M.zero) rfl _ _ rfl rfl rfl R0.out ?_))
    exact bodyPost_ret (v := .tuple #[.agg (M.cells M.zero), .bool false]) (results_pair rfl _ _ (w.heap.size + 1 + 1) _ rfl (Own.loadVarM (R0.out.put (m' := M.zero))) (.bool false) rfl) rfl ⟨by rw [HK.out, HT.out], Box.below_setRow HB.out (by omega) _⟩
  have e7 : (u.hav == 0) = false := by simpa using h7
  rw [decide_eq_false h7] at HT
  clear h7
  by_cases hm : u.metric = 65535
  · rw [decide_eq_true hm] at HT
    have HT := Lib.hid (show tellB c u = true from HT.out)
    have HK := Lib.hid (show toldM c u a = m0 from by
      unfold toldM
      rw [HT.out, if_pos rfl, HM0.out]
      unfold updM
      rw [if_pos hm, if_pos hm]
      rfl)
    have HMM := Lib.hid hm
    clear hm
    go_enter Tryz.func85, Tryz.ntmps85
    go_upto_region 1 with fail
    change Code.wp _ _ _ _ (((w.alloc (.cells c.cells 35)).alloc (.cells u.cells 119)).alloc (.cells M.zero.cells 43))
    generalize ((w.alloc (.cells c.cells 35)).alloc (.cells u.cells 119)).alloc (.cells M.zero.cells 43) = W at *
    have c0 := U0.out.cell 0 (.int .i64 u.ae) rfl
    have c2 := U0.out.cell 2 (.int .i64 u.plen) rfl
    have c4 := U0.out.cell 4 (.int .i64 u.iv) rfl
    have c5 := U0.out.cell 5 (.int .i64 u.seq) rfl
    have c6 := U0.out.cell 6 (.int .i64 u.metric) rfl
    have c9 := U0.out.cell 9 (.slice u.sa u.sl.length u.sc) rfl
    have hlt := R0.out.lt
    go_upto_region 2 with (first | (refine wpList_builtK rfl 43 _ rfl (M.cells { M.zero with kind := 11, ae := u.ae, pfx := a, plen := u.plen, interval := u.iv, seq := u.seq, metric := u.metric, sa := u.sa, sl := u.sl, sc := u.sc }) (by kernel_rfl) ?_) | (refine wpList_storeM (b := W.heap.size) (m := M.zero) (m' := { M.zero with kind := 11, ae := u.ae, pfx := a, plen := u.plen, interval := u.iv, seq := u.seq, metric := u.metric, sa := u.sa, sl := u.sl, sc := u.sc }) rfl _ _ rfl rfl rfl (Bx.new W M.zero) ?_))
    change Code.wp _ _ _ _ ((W.alloc (.cells M.zero.cells 43)).setRow W.heap.size (M.cells { M.zero with kind := 11, ae := u.ae, pfx := a, plen := u.plen, interval := u.iv, seq := u.seq, metric := u.metric, sa := u.sa, sl := u.sl, sc := u.sc }))
    rw [World.setRow_alloc_new, ← HM0.out]
    have bel := balloc (Below.refl W.heap.size W) (.cells m0.cells 43)
    have S0 := Lib.hid (S0.out.below bel)
    have U0 := Lib.hid (U0.out.below bel)
    have R0 := Lib.hid (R0.out.below bel)
    have HB := Lib.hid (bcall HB.out bel)
    have X0 := Lib.hid (Bx.new W m0)
    clear bel c0 c2 c4 c5 c6 c9
    generalize W.alloc (.cells m0.cells 43) = Y at *
    generalize W.heap.size = gx at *
    have c0 := U0.out.cell 0 (.int .i64 u.ae) rfl
    have c6 := U0.out.cell 6 (.int .i64 u.metric) rfl
    have c7 := U0.out.cell 7 (.int .i64 u.hav) rfl
    have s6 := S0.out.cell 6 (.string c.id) rfl
    rw [HMM.out] at c6
    go_wp2_with (first | (refine wpList_builtK rfl 43 _ rfl (M.cells M.zero) (by kernel_rfl) ?_) | (refine wpList_loadM (b := gx) (m := m0) rfl _ rfl rfl X0.out ?_) | (refine wpList_storeM (b := w.heap.size + 1 + 1) (m := M.zero) (m' := m0) rfl _ _ rfl rfl rfl R0.out ?_))
    exact bodyPost_ret (v := .tuple #[.agg (M.cells m0), .bool true]) (results_pair rfl _ _ (w.heap.size + 1 + 1) _ rfl (Own.loadVarM (R0.out.put (m' := m0))) (.bool true) rfl) rfl ⟨by rw [HK.out, HT.out], Box.below_setRow HB.out (by omega) _⟩
  have hm2 : (u.metric == 65535) = false := by simpa using hm
  rw [decide_eq_false hm] at HT
  by_cases hae : u.ae = 0
  · rw [decide_eq_true hae] at HT
    have HT := Lib.hid (show tellB c u = false from HT.out)
    have HA := Lib.hid hae
    clear hae hm h0 h3
    have HK := Lib.hid (show toldM c u a = M.zero by unfold toldM; rw [HT.out]; rfl)
    go_enter Tryz.func85, Tryz.ntmps85
    go_upto_region 1 with fail
    change Code.wp _ _ _ _ (((w.alloc (.cells c.cells 35)).alloc (.cells u.cells 119)).alloc (.cells M.zero.cells 43))
    generalize ((w.alloc (.cells c.cells 35)).alloc (.cells u.cells 119)).alloc (.cells M.zero.cells 43) = W at *
    have c0 := U0.out.cell 0 (.int .i64 u.ae) rfl
    have c2 := U0.out.cell 2 (.int .i64 u.plen) rfl
    have c4 := U0.out.cell 4 (.int .i64 u.iv) rfl
    have c5 := U0.out.cell 5 (.int .i64 u.seq) rfl
    have c6 := U0.out.cell 6 (.int .i64 u.metric) rfl
    have c9 := U0.out.cell 9 (.slice u.sa u.sl.length u.sc) rfl
    have hlt := R0.out.lt
    go_upto_region 2 with (first | (refine wpList_builtK rfl 43 _ rfl (M.cells { M.zero with kind := 11, ae := u.ae, pfx := a, plen := u.plen, interval := u.iv, seq := u.seq, metric := u.metric, sa := u.sa, sl := u.sl, sc := u.sc }) (by kernel_rfl) ?_) | (refine wpList_storeM (b := W.heap.size) (m := M.zero) (m' := { M.zero with kind := 11, ae := u.ae, pfx := a, plen := u.plen, interval := u.iv, seq := u.seq, metric := u.metric, sa := u.sa, sl := u.sl, sc := u.sc }) rfl _ _ rfl rfl rfl (Bx.new W M.zero) ?_))
    change Code.wp _ _ _ _ ((W.alloc (.cells M.zero.cells 43)).setRow W.heap.size (M.cells { M.zero with kind := 11, ae := u.ae, pfx := a, plen := u.plen, interval := u.iv, seq := u.seq, metric := u.metric, sa := u.sa, sl := u.sl, sc := u.sc }))
    rw [World.setRow_alloc_new, ← HM0.out]
    have bel := balloc (Below.refl W.heap.size W) (.cells m0.cells 43)
    have S0 := Lib.hid (S0.out.below bel)
    have U0 := Lib.hid (U0.out.below bel)
    have R0 := Lib.hid (R0.out.below bel)
    have HB := Lib.hid (bcall HB.out bel)
    have X0 := Lib.hid (Bx.new W m0)
    clear bel c0 c2 c4 c5 c6 c9
    generalize W.alloc (.cells m0.cells 43) = Y at *
    generalize W.heap.size = gx at *
    have c0 := U0.out.cell 0 (.int .i64 u.ae) rfl
    have c6 := U0.out.cell 6 (.int .i64 u.metric) rfl
    have c7 := U0.out.cell 7 (.int .i64 u.hav) rfl
    have s6 := S0.out.cell 6 (.string c.id) rfl
    rw [HA.out] at c0
    go_wp2_with (first | (refine wpList_builtK rfl 43 _ rfl (M.cells M.zero) (by kernel_rfl) ?_) | (refine wpList_loadM (b := gx) (m := M.zero) rfl _ rfl rfl X0.out ?_) | (refine wpList_storeM (b := w.heap.size + 1 + 1) (m := M.zero) (m' := M.zero) rfl _ _ rfl rfl rfl R0.out ?_))
    exact bodyPost_ret (v := .tuple #[.agg (M.cells M.zero), .bool false]) (results_pair rfl _ _ (w.heap.size + 1 + 1) _ rfl (Own.loadVarM (R0.out.put (m' := M.zero))) (.bool false) rfl) rfl ⟨by rw [HK.out, HT.out], Box.below_setRow HB.out (by omega) _⟩
  have e0 : (u.ae == 0) = false := by simpa using hae
  rw [decide_eq_false hae] at HT
  by_cases hz : c.id.size = 0
  · rw [decide_eq_true hz] at HT n1 n2
    have HT := Lib.hid (show tellB c u = false from HT.out)
    clear hz hae hm h0 h3
    have HK := Lib.hid (show toldM c u a = M.zero by unfold toldM; rw [HT.out]; rfl)
    go_enter Tryz.func85, Tryz.ntmps85
    go_upto_region 1 with fail
    change Code.wp _ _ _ _ (((w.alloc (.cells c.cells 35)).alloc (.cells u.cells 119)).alloc (.cells M.zero.cells 43))
    generalize ((w.alloc (.cells c.cells 35)).alloc (.cells u.cells 119)).alloc (.cells M.zero.cells 43) = W at *
    have c0 := U0.out.cell 0 (.int .i64 u.ae) rfl
    have c2 := U0.out.cell 2 (.int .i64 u.plen) rfl
    have c4 := U0.out.cell 4 (.int .i64 u.iv) rfl
    have c5 := U0.out.cell 5 (.int .i64 u.seq) rfl
    have c6 := U0.out.cell 6 (.int .i64 u.metric) rfl
    have c9 := U0.out.cell 9 (.slice u.sa u.sl.length u.sc) rfl
    have hlt := R0.out.lt
    go_upto_region 2 with (first | (refine wpList_builtK rfl 43 _ rfl (M.cells { M.zero with kind := 11, ae := u.ae, pfx := a, plen := u.plen, interval := u.iv, seq := u.seq, metric := u.metric, sa := u.sa, sl := u.sl, sc := u.sc }) (by kernel_rfl) ?_) | (refine wpList_storeM (b := W.heap.size) (m := M.zero) (m' := { M.zero with kind := 11, ae := u.ae, pfx := a, plen := u.plen, interval := u.iv, seq := u.seq, metric := u.metric, sa := u.sa, sl := u.sl, sc := u.sc }) rfl _ _ rfl rfl rfl (Bx.new W M.zero) ?_))
    change Code.wp _ _ _ _ ((W.alloc (.cells M.zero.cells 43)).setRow W.heap.size (M.cells { M.zero with kind := 11, ae := u.ae, pfx := a, plen := u.plen, interval := u.iv, seq := u.seq, metric := u.metric, sa := u.sa, sl := u.sl, sc := u.sc }))
    rw [World.setRow_alloc_new, ← HM0.out]
    have bel := balloc (Below.refl W.heap.size W) (.cells m0.cells 43)
    have S0 := Lib.hid (S0.out.below bel)
    have U0 := Lib.hid (U0.out.below bel)
    have R0 := Lib.hid (R0.out.below bel)
    have HB := Lib.hid (bcall HB.out bel)
    have X0 := Lib.hid (Bx.new W m0)
    clear bel c0 c2 c4 c5 c6 c9
    generalize W.alloc (.cells m0.cells 43) = Y at *
    generalize W.heap.size = gx at *
    have c0 := U0.out.cell 0 (.int .i64 u.ae) rfl
    have c6 := U0.out.cell 6 (.int .i64 u.metric) rfl
    have c7 := U0.out.cell 7 (.int .i64 u.hav) rfl
    have s6 := S0.out.cell 6 (.string c.id) rfl
    go_wp2_with (first | (refine wpList_builtK rfl 43 _ rfl (M.cells M.zero) (by kernel_rfl) ?_) | (refine wpList_loadM (b := gx) (m := M.zero) rfl _ rfl rfl X0.out ?_) | (refine wpList_storeM (b := w.heap.size + 1 + 1) (m := M.zero) (m' := M.zero) rfl _ _ rfl rfl rfl R0.out ?_))
    exact bodyPost_ret (v := .tuple #[.agg (M.cells M.zero), .bool false]) (results_pair rfl _ _ (w.heap.size + 1 + 1) _ rfl (Own.loadVarM (R0.out.put (m' := M.zero))) (.bool false) rfl) rfl ⟨by rw [HK.out, HT.out], Box.below_setRow HB.out (by omega) _⟩
  rw [decide_eq_false hz] at HT n1 n2
  have HT := Lib.hid (show tellB c u = true from HT.out)
  obtain ⟨f, hf, hf2⟩ : ∃ f : Nat, fam u.ae = f ∧ f < 2 := by
    rcases (show u.ae = 1 ∨ u.ae = 2 ∨ u.ae = 3 by omega) with e | e | e <;> rw [e]
    · exact ⟨0, rfl, by decide⟩
    · exact ⟨1, rfl, by decide⟩
    · exact ⟨1, rfl, by decide⟩
  have HK := Lib.hid (show toldM c u a = { m0 with id := c.id, next := c.nx f } from by
    unfold toldM
    rw [HT.out, if_pos rfl, HM0.out]
    unfold updM
    rw [if_neg hm, if_neg hm, hf])
  rw [hf] at PF
  clear hz hae hm h0 h3 hf
  go_enter Tryz.func85, Tryz.ntmps85
  go_upto_region 1 with fail
  change Code.wp _ _ _ _ (((w.alloc (.cells c.cells 35)).alloc (.cells u.cells 119)).alloc (.cells M.zero.cells 43))
  generalize ((w.alloc (.cells c.cells 35)).alloc (.cells u.cells 119)).alloc (.cells M.zero.cells 43) = W at *
  have c0 := U0.out.cell 0 (.int .i64 u.ae) rfl
  have c2 := U0.out.cell 2 (.int .i64 u.plen) rfl
  have c4 := U0.out.cell 4 (.int .i64 u.iv) rfl
  have c5 := U0.out.cell 5 (.int .i64 u.seq) rfl
  have c6 := U0.out.cell 6 (.int .i64 u.metric) rfl
  have c9 := U0.out.cell 9 (.slice u.sa u.sl.length u.sc) rfl
  have hlt := R0.out.lt
  go_upto_region 2 with (first | (refine wpList_builtK rfl 43 _ rfl (M.cells { M.zero with kind := 11, ae := u.ae, pfx := a, plen := u.plen, interval := u.iv, seq := u.seq, metric := u.metric, sa := u.sa, sl := u.sl, sc := u.sc }) (by kernel_rfl) ?_) | (refine wpList_storeM (b := W.heap.size) (m := M.zero) (m' := { M.zero with kind := 11, ae := u.ae, pfx := a, plen := u.plen, interval := u.iv, seq := u.seq, metric := u.metric, sa := u.sa, sl := u.sl, sc := u.sc }) rfl _ _ rfl rfl rfl (Bx.new W M.zero) ?_))
  change Code.wp _ _ _ _ ((W.alloc (.cells M.zero.cells 43)).setRow W.heap.size (M.cells { M.zero with kind := 11, ae := u.ae, pfx := a, plen := u.plen, interval := u.iv, seq := u.seq, metric := u.metric, sa := u.sa, sl := u.sl, sc := u.sc }))
  rw [World.setRow_alloc_new, ← HM0.out]
  have bel := balloc (Below.refl W.heap.size W) (.cells m0.cells 43)
  have S0 := Lib.hid (S0.out.below bel)
  have U0 := Lib.hid (U0.out.below bel)
  have R0 := Lib.hid (R0.out.below bel)
  have HB := Lib.hid (bcall HB.out bel)
  have X0 := Lib.hid (Bx.new W m0)
  clear bel c0 c2 c4 c5 c6 c9
  generalize W.alloc (.cells m0.cells 43) = Y at *
  generalize W.heap.size = gx at *
  have c0 := U0.out.cell 0 (.int .i64 u.ae) rfl
  have c6 := U0.out.cell 6 (.int .i64 u.metric) rfl
  have c7 := U0.out.cell 7 (.int .i64 u.hav) rfl
  have s6 := S0.out.cell 6 (.string c.id) rfl
  go_upto_region 8 with fail
  clear c0 c6 c7 s6 n1 n2 hm2 e0 e7
  refine wp_region_held_drew (S := fun X => Bk 35 X w.heap.size c.cells ∧ Bk 119 X (w.heap.size + 1) u.cells) (by kernel_rfl) ⟨S0.out, U0.out⟩ (fun hS => ?_)
  have X0 := Lib.hid (show Bx Y.drew gx m0 from X0.out)
  have R0 := Lib.hid (show Bx Y.drew (w.heap.size + 1 + 1) M.zero from R0.out)
  have HB := Lib.hid HB.out.drew
  clear S0 U0
  generalize Y.drew = Y0 at *
  refine H.tk (i := 0) (v := ?v0) ?h0 hS ?_
  case h0 => (intro w hw; go_simp; first | done | (with_reducible rfl))
  try simp only [Act.put, List.setIfInBounds_toArray, List.set_cons_zero, List.set_cons_succ]
  refine H.tk (i := 1) (v := .string c.id) ?h1 hS ?_
  case h1 => exact (fun w hw => by have cq := hw.1.cell 6 (.string c.id) rfl; go_simp)
  try simp only [Act.put, List.setIfInBounds_toArray, List.set_cons_zero, List.set_cons_succ]
  refine H.tk (i := 2) (v := ?v2) ?h2 hS ?_
  case h2 => (intro w hw; go_simp; first | done | (with_reducible rfl))
  try simp only [Act.put, List.setIfInBounds_toArray, List.set_cons_zero, List.set_cons_succ]
  refine H.tk (i := 3) (v := .int .i64 u.ae) ?h3 hS ?_
  case h3 => exact (fun w hw => by have cq := hw.2.cell 0 (.int .i64 u.ae) rfl; go_simp)
  try simp only [Act.put, List.setIfInBounds_toArray, List.set_cons_zero, List.set_cons_succ]
  refine H.tk (i := 5) (v := ?v5) ?h5 hS ?_
  case h5 => (intro w hw; go_simp; first | done | (with_reducible rfl))
  try simp only [Act.put, List.setIfInBounds_toArray, List.set_cons_zero, List.set_cons_succ]
  refine H.tk (i := 8) (v := ?v8) ?h8 hS ?_
  case h8 => (intro w hw; go_simp; first | done | (with_reducible rfl))
  try simp only [Act.put, List.setIfInBounds_toArray, List.set_cons_zero, List.set_cons_succ]
  refine wpAnyH_ready (rs := [4]) (by kernel_rfl) (by simp) ?_
  refine AllReadyH.cons rfl (fun K hK => ?_) AllReadyH.nil
  go_simp
  refine (PF.out _).mono ?_
  rintro e X4 ⟨rfl, rfl⟩
  refine hK.out _ _ hS (fun _ => ?_)
  clear hK K
  try simp only [Act.put, List.setIfInBounds_toArray, List.set_cons_zero, List.set_cons_succ]
  refine H.tk (i := 6) (v := .pointer (some ⟨w.heap.size, 4 + f, none⟩)) ?h6 hS ?_
  case h6 => exact (fun _ _ => ex_indexAt rfl rfl rfl (indexAt2 w.heap.size f hf2 _))
  try simp only [Act.put, List.setIfInBounds_toArray, List.set_cons_zero, List.set_cons_succ]
  refine H.tk (i := 7) (v := .string (c.nx f)) ?h7 hS ?_
  case h7 => exact (fun w hw => by have cq := nx_cellX hw.1 hf2; go_simp)
  try simp only [Act.put, List.setIfInBounds_toArray, List.set_cons_zero, List.set_cons_succ]
  refine wpAnyH_ready (rs := [9]) (by kernel_rfl) (by simp) ?_
  refine AllReadyH.cons rfl (fun K hK => ?_) AllReadyH.nil
  have cx := X0.out.cs.c11
  have fx := X0.out.frozen 11
  go_simp
  have X0 := Lib.hid (X0.out.set (i := 11) (v := .string c.id) (m' := { m0 with id := c.id }) rfl)
  have R0 := Lib.hid (R0.out.off (p := ⟨gx, 11, none⟩) (by show w.heap.size + 1 + 1 ≠ gx; omega) (.string c.id))
  have HB := Lib.hid (HB.out.setCell (p := ⟨gx, 11, none⟩) (by show w.heap.size ≤ gx; omega) (.string c.id))
  refine hK.out _ _ ⟨hS.1.off (p := ⟨gx, 11, none⟩) (by show w.heap.size ≠ gx; omega) (.string c.id), hS.2.off (p := ⟨gx, 11, none⟩) (by show w.heap.size + 1 ≠ gx; omega) (.string c.id)⟩ (fun hS' => ?_)
  clear hK K hS cx fx
  have hS := hS'
  clear hS'
  generalize World.setCell _ ⟨gx, 11, none⟩ _ = Y9 at *
  try simp only [Act.put, List.setIfInBounds_toArray, List.set_cons_zero, List.set_cons_succ]
  refine H.tk (i := 10) (v := ?v10) ?h10 hS ?_
  case h10 => (intro w hw; go_simp; first | done | (with_reducible rfl))
  try simp only [Act.put, List.setIfInBounds_toArray, List.set_cons_zero, List.set_cons_succ]
  refine wpAnyH_ready (rs := [11]) (by kernel_rfl) (by simp) ?_
  refine AllReadyH.cons rfl (fun K hK => ?_) AllReadyH.nil
  have cx := X0.out.cs.c9
  have fx := X0.out.frozen 9
  go_simp
  have X0 := Lib.hid (X0.out.set (i := 9) (v := .string (c.nx f)) (m' := { m0 with id := c.id, next := c.nx f }) rfl)
  have R0 := Lib.hid (R0.out.off (p := ⟨gx, 9, none⟩) (by show w.heap.size + 1 + 1 ≠ gx; omega) (.string (c.nx f)))
  have HB := Lib.hid (HB.out.setCell (p := ⟨gx, 9, none⟩) (by show w.heap.size ≤ gx; omega) (.string (c.nx f)))
  refine hK.out _ _ ⟨hS.1.off (p := ⟨gx, 9, none⟩) (by show w.heap.size ≠ gx; omega) (.string (c.nx f)), hS.2.off (p := ⟨gx, 9, none⟩) (by show w.heap.size + 1 ≠ gx; omega) (.string (c.nx f))⟩ (fun hS' => ?_)
  clear hK K hS cx fx
  have hS := hS'
  clear hS'
  generalize World.setCell _ ⟨gx, 9, none⟩ _ = Y11 at *
  try simp only [Act.put, List.setIfInBounds_toArray, List.set_cons_zero, List.set_cons_succ]
  refine wpAnyH_done (by kernel_rfl) ?_ _
  go_wp2_with (first | (refine wpList_loadM (b := gx) (m := { m0 with id := c.id, next := c.nx f }) rfl _ rfl rfl X0.out ?_) | (refine wpList_storeM (b := w.heap.size + 1 + 1) (m := M.zero) (m' := { m0 with id := c.id, next := c.nx f }) rfl _ _ rfl rfl rfl R0.out ?_))
  exact bodyPost_ret (v := .tuple #[.agg (M.cells { m0 with id := c.id, next := c.nx f }), .bool true]) (results_pair rfl _ _ (w.heap.size + 1 + 1) _ rfl (Own.loadVarM (R0.out.put (m' := { m0 with id := c.id, next := c.nx f }))) (.bool true) rfl) rfl ⟨by rw [HK.out, HT.out], Box.below_setRow HB.out (by omega) _⟩
end Go.Proofs.YtpkmpinbpfblfaaGreatDoor.K7
