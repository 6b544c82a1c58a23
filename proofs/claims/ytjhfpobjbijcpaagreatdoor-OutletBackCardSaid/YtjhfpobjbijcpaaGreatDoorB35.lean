/-
  The TLVs of bytes: the document's Split. Condition: at most 100000 bytes, from a place of at most 2^40 on.
  Which Subs bytes hold: the document's Get. Condition: at most 100000 bytes.
-/
import Derived.Test.YtjhfpobjbijcpaaGreatDoorB34
namespace Go.Proofs.YtjhfpobjbijcpaaGreatDoor.F5
open Go.ChangeShapes Go.WideShapes Go.ChangeAt Go.RowKit
open Go.Proofs.YtjhfpobjbijcpaaGreatDoor.F1
open Go.Proofs.YtjhfpobjbijcpaaGreatDoor.F2
open Go.Proofs.YtjhfpobjbijcpaaGreatDoor.F4
open Go.Proofs.YtjhfpobjbijcpaaGreatDoor.Bk (Bk Sh wpList_builtK)
open Go.Proofs.YtjhfpobjbijcpaaGreatDoor.Hs
open Go.Proofs.YtjhfpobjbijcpaaGreatDoor.Hx (conv8 ex_built)
open Go.Proofs.YtjhfpobjbijcpaaGreatDoor.Tl (cellsT oneT Lst bs_one app_one cells_new H.bsT H.appT)
set_option linter.unusedVariables false
set_option maxRecDepth 100000
set_option maxRecDepth 100000

set_option maxHeartbeats 6400000 in
theorem rsplit_own (s : ByteArray) (base : Int) (w : World) (hs : s.size ≤ 100000) (h0 : 0 ≤ base) (h1 : base ≤ 1099511627776) : Calls Tryz.prog 23 #[.string s, .int .i64 base] w (AnsT (outT base s) w) := by
  have HS := Lib.hid hs
  have hbs : (s.size : Int) ≤ 100000 := by omega
  clear hs
  go_enter Tryz.func23, Tryz.ntmps23
  go_wp2
  go_loopw [7, 8] (fun v pv wr => ∃ (l : List El) (p : Nat) (r : List UInt8), pv = .int .i64 (p : Int) ∧ Hid ((encT l).length = p) ∧ Hid (Lst w.heap.size wr v (placed base l)) ∧ Hid (okT l) ∧ Hid (s.data.toList = encT l ++ r) ∧ Hid (Below w.heap.size w wr)) (fun _ pv _ => s.size - (intOf pv).toNat)
  case atStart => exact ⟨[], 0, s.data.toList, rfl, Lib.hid rfl, Lib.hid (Lst.nil _ _), Lib.hid okT_nil, Lib.hid rfl, Lib.hid (Below.refl _ _)⟩
  case round =>
    obtain ⟨l, p, r, rfl, HP, HL, HO, HE, HB⟩ := hrel
    have HZ : Hid (s.size = p + r.length) := Lib.hid (by rw [size_of HE.out, List.length_append, HP.out])
    have hp0 : 0 ≤ (p : Int) := Int.natCast_nonneg _
    have hp1 : (p : Int) ≤ 100000 := by have := HZ.out; have := HS.out; omega
    by_cases hu : r = []
    · subst hu
      have HY := Lib.hid (out_yes (base := base) HO.out (by rw [HE.out, List.append_nil]))
      have e1 : ¬ (p : Int) < (s.size : Int) := by have := HZ.out; simp only [List.length_nil] at this; omega
      obtain ⟨a, c, rfl⟩ := HL.out.slice
      have HW := Lib.hid HL.out
      clear HL HP HZ HE
      go_wp2
      go_ret3
      exact AnsT.yes HY.out rfl HW.out HB.out
    obtain ⟨k1, k2, k3⟩ := F1.step HE.out HP.out hu
    have e1 : (p : Int) < (s.size : Int) := by omega
    have i0 := idx s p (p : Int) rfl (by omega)
    have HCC : Hid ((placed base l).length ≤ 100000) := Lib.hid (by rw [placed_len]; have := HS.out; have := HP.out; have := HZ.out; have := len_le l; omega)
    rcases k3 with ⟨b0, r', hc⟩ | ⟨b0, k4, hc⟩ | ⟨n, b0, k4, b1, kn, ⟨k5, hc⟩ | ⟨k5, x, r', hc, x1, x2, x3⟩⟩
    · rw [b0] at i0
      obtain ⟨ho, he⟩ := cut1_some hc
      have HO := Lib.hid (okT_snoc HO.out ho)
      have HE : Hid (s.data.toList = encT (l ++ [(⟨#[]⟩, 0)]) ++ r') := Lib.hid (by rw [HE.out, he, encT_snoc, List.append_assoc])
      have HPL : Hid (placed base (l ++ [(⟨#[]⟩, 0)]) = placed base l ++ [(base + (p : Int), (⟨#[]⟩, 0))]) := Lib.hid (by rw [placed_snoc, HP.out])
      have HP2 : Hid ((encT (l ++ [(⟨#[]⟩, 0)])).length = p + 1) := Lib.hid (by rw [encT_snoc, List.length_append, HP.out]; rfl)
      have HM : Hid (s.size - p > s.size - (p + 1)) := Lib.hid (by omega)
      have HLA := Lib.hid (HL.out.below (balloc (Below.refl _ wr) (.cells (cellsT (base + (p : Int), (⟨#[]⟩, 0))) 79)))
      have HBA := Lib.hid (balloc HB.out (.cells (cellsT (base + (p : Int), (⟨#[]⟩, 0))) 79))
      clear hu hc ho he HZ HP b0 k1 k2 HL HB
      generalize placed base l = lp at *
      go_upto_region 6 with (first | (refine wpList_builtK rfl 79 _ rfl (cellsT (base + (p : Int), (⟨#[]⟩, 0))) (by kernel_rfl) ?_) | (refine bs_one rfl _ rfl (m := (base + (p : Int), (⟨#[]⟩, 0))) rfl ?_) | (at_builtin; refine app_one rfl _ _ rfl w.heap.size _ lp (base + (p : Int), (⟨#[]⟩, 0)) wr.heap.size 1 rfl HLA.out rfl (cells_new (base + (p : Int), (⟨#[]⟩, 0)) wr) HCC.out HBA.out.size ?_))
      intro v' w' hl hgr hb
      have HL := Lib.hid hl
      have HB := Lib.hid (HBA.out.trans hb)
      rw [← HPL.out] at HL
      clear hl hgr hb HLA HBA HPL HCC i0
      go_wp2
      go_roundw
      case rel => exact ⟨l ++ [(⟨#[]⟩, 0)], p + 1, r', by push_cast; rfl, HP2, HL, HO, HE, HB⟩
      case measure => have := HM.out; simp only [intOf]; omega
    · have HY := Lib.hid (out_no (base := base) HO.out HE.out hc hu)
      rw [HP.out] at HY
      have n0 := bt_nn s p
      have l0 := bt_lt s p
      have h2 : (s.size : Int) - (p : Int) < 2 := by omega
      clear hu hc HZ HP HE HO k1 k2 k4 HL HCC
      generalize bt s p = b at *
      go_wp2
      go_ret3
      exact AnsT.no HY.out HB.out
    · have HY := Lib.hid (out_no (base := base) HO.out HE.out hc hu)
      rw [HP.out] at HY
      have n0 := bt_nn s p
      have l0 := bt_lt s p
      have j1 := idx s (p + 1) ((p : Int) + 1) (by push_cast; rfl) (by omega)
      rw [b1] at j1
      have v1 := conv8 (n : Int) (by omega) (by omega)
      have h2 : ¬ (s.size : Int) - (p : Int) < 2 := by omega
      have h4 : (s.size : Int) - (p : Int) - 2 < (n : Int) := by omega
      have kn0 : 0 ≤ (n : Int) := by omega
      have kn1 : (n : Int) ≤ 255 := by omega
      clear hu hc HZ HP HE HO k1 k2 k4 k5 kn b1 HL HCC
      generalize bt s p = b at *
      generalize (n : Int) = ni at *
      go_wp2
      go_ret3
      exact AnsT.no HY.out HB.out
    · obtain ⟨ho, he⟩ := cut1_some hc
      have hl : (enc1 x).length = 2 + n := by rw [enc1_len, if_neg (by rw [x1]; exact b0), x3]
      have HO := Lib.hid (okT_snoc HO.out ho)
      have HE : Hid (s.data.toList = encT (l ++ [x]) ++ r') := Lib.hid (by rw [HE.out, he, encT_snoc, List.append_assoc])
      have HPL : Hid (placed base (l ++ [x]) = placed base l ++ [(base + (p : Int), x)]) := Lib.hid (by rw [placed_snoc, HP.out])
      have HP2 : Hid ((encT (l ++ [x])).length = p + 2 + n) := Lib.hid (by rw [encT_snoc, List.length_append, HP.out, hl]; omega)
      have HM : Hid (s.size - p > s.size - (p + 2 + n)) := Lib.hid (by omega)
      have n0 := bt_nn s p
      have l0 := bt_lt s p
      have j1 := idx s (p + 1) ((p : Int) + 1) (by push_cast; rfl) (by omega)
      rw [b1] at j1
      have v1 := conv8 (n : Int) (by omega) (by omega)
      have v0 := conv8 (bt s p) n0 l0
      have h2 : ¬ (s.size : Int) - (p : Int) < 2 := by omega
      have h4 : ¬ (s.size : Int) - (p : Int) - 2 < (n : Int) := by omega
      have kn0 : 0 ≤ (n : Int) := by omega
      have kn1 : (n : Int) ≤ 255 := by omega
      have s2 := sl_m s ((p : Int) + 2) ((p : Int) + 2 + (n : Int)) (p + 2) (p + 2 + n) (by push_cast; rfl) (by push_cast; rfl) (by omega) (by omega)
      have HX := Lib.hid (show cellsT (base + (p : Int), x) = #[.int .i64 x.2, .int .i64 (base + (p : Int)), .string x.1] from rfl)
      rw [x1, x2] at HX
      clear hu hc ho he hl HZ HP k1 k2 k4 k5 kn b1 x1 x2 x3
      generalize bt s p = b at *
      generalize s.extract (p + 2) (p + 2 + n) = dd at *
      generalize placed base l = lp at *
      go_upto_region 10 with fail
      have q1 : IntKind.i64.wrap ((p : Int) + 2) = (p : Int) + 2 := IntWalk.i64_in _ (by omega)
      have q2 : IntKind.i64.wrap ((p : Int) + 2 + (n : Int)) = (p : Int) + 2 + (n : Int) := IntWalk.i64_in _ (by omega)
      have q3 : wrap64 ((p : Int) + 2) = (p : Int) + 2 := IntWalk.wrap64_in _ (by omega)
      have q4 : wrap64 ((p : Int) + 2 + (n : Int)) = (p : Int) + 2 + (n : Int) := IntWalk.wrap64_in _ (by omega)
      have q5 : IntKind.i64.wrap (base + (p : Int)) = base + (p : Int) := IntWalk.i64_in _ (by omega)
      have q6 : wrap64 (base + (p : Int)) = base + (p : Int) := IntWalk.wrap64_in _ (by omega)
      refine wp_region_held_drew (S := fun _ => True) (by kernel_rfl) trivial (fun hS => ?_)
      have HL := Lib.hid (show Lst w.heap.size wr.drew u7 lp from HL.out)
      have HB := Lib.hid (HB.out.drew)
      generalize wr.drew = w1 at *
      have HLA := Lib.hid (HL.out.below (balloc (Below.refl _ w1) (.cells (cellsT (base + (p : Int), x)) 79)))
      have HBA := Lib.hid (balloc HB.out (.cells (cellsT (base + (p : Int), x)) 79))
      refine H.tk (i := 0) (v := ?v0) ?h0 hS ?_
      case h0 => (intro w hw; go_simp; first | done | (with_reducible rfl))
      try simp only [Act.put, List.setIfInBounds_toArray, List.set_cons_zero, List.set_cons_succ]
      refine H.tk (i := 1) (v := ?v1) ?h1 hS ?_
      case h1 => (intro w hw; go_simp; first | done | (with_reducible rfl))
      try simp only [Act.put, List.setIfInBounds_toArray, List.set_cons_zero, List.set_cons_succ]
      refine H.tk (i := 2) (v := ?v2) ?h2 hS ?_
      case h2 => (intro w hw; go_simp; first | done | (with_reducible rfl))
      try simp only [Act.put, List.setIfInBounds_toArray, List.set_cons_zero, List.set_cons_succ]
      refine H.tk (i := 3) (v := ?v3) ?h3 hS ?_
      case h3 => (intro w hw; go_simp; first | done | (with_reducible rfl))
      try simp only [Act.put, List.setIfInBounds_toArray, List.set_cons_zero, List.set_cons_succ]
      refine H.tk (i := 4) (v := ?v4) ?h4 hS ?_
      case h4 => (intro w hw; go_simp; first | done | (with_reducible rfl))
      try simp only [Act.put, List.setIfInBounds_toArray, List.set_cons_zero, List.set_cons_succ]
      refine H.tk (i := 5) (v := ?v5) ?h5 hS ?_
      case h5 => (intro w hw; go_simp; first | done | (with_reducible rfl))
      try simp only [Act.put, List.setIfInBounds_toArray, List.set_cons_zero, List.set_cons_succ]
      refine H.tk (i := 6) (v := ?v6) ?h6 hS ?_
      case h6 => (intro w hw; go_simp; first | done | (with_reducible rfl))
      try simp only [Act.put, List.setIfInBounds_toArray, List.set_cons_zero, List.set_cons_succ]
      refine H.tk (i := 7) (v := ?v7) ?h7 hS ?_
      case h7 => (intro w hw; go_simp; first | done | (with_reducible rfl))
      try simp only [Act.put, List.setIfInBounds_toArray, List.set_cons_zero, List.set_cons_succ]
      refine H.tk (i := 8) (v := ?v8) ?h8 hS ?_
      case h8 => (intro w hw; go_simp; first | done | (with_reducible rfl))
      try simp only [Act.put, List.setIfInBounds_toArray, List.set_cons_zero, List.set_cons_succ]
      refine H.tk (i := 9) (v := ?v9) ?h9 hS ?_
      case h9 => (intro w hw; go_simp; first | done | (with_reducible rfl))
      try simp only [Act.put, List.setIfInBounds_toArray, List.set_cons_zero, List.set_cons_succ]
      refine H.tk (i := 10) (v := ?v10) ?h10 hS ?_
      case h10 => (intro w hw; go_simp; first | done | (with_reducible rfl))
      try simp only [Act.put, List.setIfInBounds_toArray, List.set_cons_zero, List.set_cons_succ]
      refine H.tk (i := 11) (v := ?v11) ?h11 hS ?_
      case h11 => (intro w hw; go_simp; first | done | (with_reducible rfl))
      try simp only [Act.put, List.setIfInBounds_toArray, List.set_cons_zero, List.set_cons_succ]
      refine H.tk (i := 12) (v := ?v12) ?h12 hS ?_
      case h12 => (intro w hw; go_simp; first | done | (with_reducible rfl))
      try simp only [Act.put, List.setIfInBounds_toArray, List.set_cons_zero, List.set_cons_succ]
      refine H.tk (i := 13) (v := ?v13) ?h13 hS ?_
      case h13 => (intro w hw; go_simp; first | done | (with_reducible rfl))
      try simp only [Act.put, List.setIfInBounds_toArray, List.set_cons_zero, List.set_cons_succ]
      refine H.tk (i := 14) (v := ?v14) ?h14 hS ?_
      case h14 => (intro w hw; go_simp; first | done | (with_reducible rfl))
      try simp only [Act.put, List.setIfInBounds_toArray, List.set_cons_zero, List.set_cons_succ]
      refine H.tk (i := 15) (v := ?v15) ?h15 hS ?_
      case h15 => (intro w hw; go_simp; first | done | (with_reducible rfl))
      try simp only [Act.put, List.setIfInBounds_toArray, List.set_cons_zero, List.set_cons_succ]
      refine H.tk (i := 16) (v := .agg (cellsT (base + (p : Int), x))) ?h16 hS ?_
      case h16 => rw [HX.out]; exact fun w _ => ex_built rfl (by kernel_rfl)
      try simp only [Act.put, List.setIfInBounds_toArray, List.set_cons_zero, List.set_cons_succ]
      refine H.bsT (i := 17) (m := (base + (p : Int), x)) (by simp only [List.getElem?_toArray, List.getElem?_cons_succ, List.getElem?_cons_zero]; rfl) (by kernel_rfl) (by kernel_rfl) rfl _ rfl rfl trivial ?_
      try simp only [Act.put, List.setIfInBounds_toArray, List.set_cons_zero, List.set_cons_succ]
      refine H.appT (i := 18) (by simp only [List.getElem?_toArray, List.getElem?_cons_succ, List.getElem?_cons_zero]; rfl) (by kernel_rfl) (by kernel_rfl) rfl (.tmp 53) (.tmp 70) rfl w.heap.size _ lp (base + (p : Int), x) w1.heap.size 1 rfl HLA.out rfl (cells_new (base + (p : Int), x) w1) HCC.out HBA.out.size (fun _ _ => trivial) ?_
      intro v' w' hl _ hb
      try simp only [Act.put, List.setIfInBounds_toArray, List.set_cons_zero, List.set_cons_succ]
      refine H.tk (i := 19) (v := ?v19) ?h19 hS ?_
      case h19 => (intro w hw; go_simp; first | done | (with_reducible rfl))
      try simp only [Act.put, List.setIfInBounds_toArray, List.set_cons_zero, List.set_cons_succ]
      refine wpAnyH_done (by kernel_rfl) ?_ _
      have HL := Lib.hid hl
      have HB := Lib.hid (HBA.out.trans hb)
      rw [← HPL.out] at HL
      clear hl hb HLA HBA HPL HCC HX s2 i0 j1 v0 v1
      go_wp2
      go_roundw
      case rel => exact ⟨l ++ [x], p + 2 + n, r', by push_cast; rfl, HP2, HL, HO, HE, HB⟩
      case measure => have := HM.out; simp only [intOf]; omega
end Go.Proofs.YtjhfpobjbijcpaaGreatDoor.F5
namespace Go.Proofs.YtjhfpobjbijcpaaGreatDoor.S6
open Go.ChangeShapes Go.WideShapes Go.ChangeAt Go.RowKit
open Go.Proofs.YtjhfpobjbijcpaaGreatDoor.Ms
open Go.Proofs.YtjhfpobjbijcpaaGreatDoor.Cnt
open Go.Proofs.YtjhfpobjbijcpaaGreatDoor.S1
open Go.Proofs.YtjhfpobjbijcpaaGreatDoor.S5
open Go.Proofs.YtjhfpobjbijcpaaGreatDoor.Hs
open Go.Proofs.YtjhfpobjbijcpaaGreatDoor.Hx (ex_built)
open Go.Proofs.YtjhfpobjbijcpaaGreatDoor.F1 (enc1 encT outT placed placed_len okT size_of len_le)
open Go.Proofs.YtjhfpobjbijcpaaGreatDoor.F5 (rsplit_own)
open Go.Proofs.YtjhfpobjbijcpaaGreatDoor.Tl (TRow cellsT indexT add_two)
open Go.Proofs.YtjhfpobjbijcpaaGreatDoor.Sx (cellsS Lst cells_new H.bsS H.appS)
set_option linter.unusedVariables false
set_option maxRecDepth 100000
set_option maxRecDepth 100000

/-- What the loads read. -/
def Sl (p : Addr) (k : Nat) (d : ByteArray) (n : Int) (W : World) : Prop :=
  W.cell? (p.add (k * 3)) = some (.int .i64 n) ∧ W.cell? ⟨(p.add (k * 3)).block, (p.add (k * 3)).off + 2, none⟩ = some (.string d)
theorem Sl.far {B : Nat} {p : Addr} {k : Nat} {d : ByteArray} {n : Int} {W W' : World} (h : Sl p k d n W) (hb : Below B W W') (hp : p.block < B) : Sl p k d n W' :=
  ⟨by rw [hb.cell (by rw [add_block]; exact hp)]; exact h.1, by rw [hb.cell (by show (p.add (k * 3)).block < _; rw [add_block]; exact hp)]; exact h.2⟩

set_option maxHeartbeats 6400000 in
theorem rget_own (s : ByteArray) (w : World) (hs : s.size ≤ 100000) : Calls Tryz.prog 93 #[.string s] w (AnsS (outS s) w) := by
  have P1 := Lib.hid (rsplit_own s 0 w hs (by omega) (by omega))
  rcases outS_cases s with ⟨l, ho, he, e, hk⟩ | ⟨p, e, hk⟩
  rotate_left
  · have HY := Lib.hid hk
    rw [e] at P1
    clear e hk hs
    go_enter Tryz.func93, Tryz.ntmps93
    go_wp2_with fail
    refine P1.out.mono ?_
    rintro r w1 ⟨a1, c1, rfl, h1, hb⟩
    have HB := Lib.hid hb
    clear h1 hb P1
    dsimp only [List.length_nil]
    go_wp2
    go_ret3
    exact AnsS.no HY.out HB.out
  have HZ := size_of he
  have hls := len_le l
  have HQ := Lib.hid (show bytesN (keep l) ≤ 100000 by have := keep_size l; omega)
  have HK := Lib.hid (show (keep l).length ≤ 100000 by have := keep_len l; omega)
  have HP := Lib.hid (show (placed 0 l).length ≤ 100000 by rw [placed_len]; omega)
  have HD := Lib.hid (placed_snd l 0)
  have HE := Lib.hid hk
  rw [e] at P1
  clear e hk hs ho he HZ hls
  go_enter Tryz.func93, Tryz.ntmps93
  go_wp2_with fail
  refine P1.out.mono ?_
  rintro r w1 ⟨a, c, rfl, h1, hb⟩
  have HL := Lib.hid h1.row
  have HB1 := Lib.hid hb
  clear h1 hb P1
  dsimp only
  generalize placed 0 l = lt at *
  go_wp2
  go_loopw [8, 9, 10] (fun v kn i wr => ∃ k : Nat, k ≤ lt.length ∧ i = .int .i64 k ∧ kn = .bool (knownB (els lt k)) ∧ Hid (Lst w1.heap.size wr v (keep (els lt k))) ∧ Hid (Below w1.heap.size w1 wr)) (fun _ _ i _ => lt.length - (intOf i).toNat)
  case atStart => exact ⟨0, Nat.zero_le _, rfl, by rw [els_zero]; rfl, Lib.hid (by rw [els_zero]; exact Lst.nil _ _), Lib.hid (Below.refl _ _)⟩
  case round =>
    obtain ⟨k, hk, rfl, rfl, HV, HB⟩ := hrel
    by_cases hlt : k < lt.length
    · obtain ⟨p, rfl, hp, -, -, -⟩ := HL.out k hlt
      have HH := Lib.hid hp
      clear hp
      obtain ⟨p', hpp, hp, c0, c1, c2⟩ := (HL.out.below HB.out) k hlt
      cases hpp
      have ix := fun W => indexT p lt.length c k hlt W
      have HT := Lib.hid (els_snoc lt k hlt)
      have hk2 : (k : Int) ≤ 100000 := by have := HP.out; omega
      have HC : Hid ((keep (els lt k)).length ≤ 100000) := Lib.hid (by have := HP.out; have := keep_len (els lt k); have := els_len lt k; omega)
      rw [add_two] at c2
      generalize lt[k] = u at *
      generalize els lt k = lk at *
      obtain ⟨at0, d, n⟩ := u
      simp only [] at c0 c1 c2 HT
      clear c1
      by_cases h1 : n < 2
      · have hk0 : keepB (d, n) = false := by unfold keepB; simp; omega
        have e1 := keep_no hk0 lk
        have e2 : knownB (lk ++ [(d, n)]) = knownB lk := by rw [known_snoc]; simp; omega
        rw [← HT.out] at e1 e2
        rw [← e1] at HV
        have E2 := Lib.hid e2
        clear e1 e2 hk0 c2
        have h1' : ¬ 2 ≤ n := by omega
        have h2' : n ≤ 127 := by omega
        generalize knownB lk = b0 at *
        cases b0
        · go_wp2
          go_roundw
          case rel => exact ⟨k + 1, hlt, by go_num, bool_val E2.out.symm, HV, HB⟩
          case measure => simp [intOf]; omega
        · go_wp2
          go_roundw
          case rel => exact ⟨k + 1, hlt, by go_num, bool_val E2.out.symm, HV, HB⟩
          case measure => simp [intOf]; omega
      have h1' : 2 ≤ n := by omega
      by_cases h2 : 127 < n
      · have hk0 : keepB (d, n) = false := by unfold keepB; simp; omega
        have e1 := keep_no hk0 lk
        have e2 : knownB (lk ++ [(d, n)]) = false := by rw [known_snoc]; simp; omega
        rw [← HT.out] at e1 e2
        rw [← e1] at HV
        have E2 := Lib.hid e2
        clear e1 e2 hk0 c2
        have h2' : ¬ n ≤ 127 := by omega
        generalize knownB lk = b0 at *
        cases b0
        · go_wp2
          go_roundw
          case rel => exact ⟨k + 1, hlt, by go_num, bool_val E2.out.symm, HV, HB⟩
          case measure => simp [intOf]; omega
        · go_wp2
          go_roundw
          case rel => exact ⟨k + 1, hlt, by go_num, bool_val E2.out.symm, HV, HB⟩
          case measure => simp [intOf]; omega
      have h2' : n ≤ 127 := by omega
      have hk0 : keepB (d, n) = true := by unfold keepB; simp; omega
      have e1 := keep_yes hk0 lk
      have e2 : knownB (lk ++ [(d, n)]) = knownB lk := by rw [known_snoc]; simp; omega
      rw [← HT.out] at e1 e2
      have E1 := Lib.hid e1
      have E2 := Lib.hid e2
      have HS0 : Hid (Sl p k d n wr.drew) := Lib.hid ⟨c0, c2⟩
      have hkl : (k : Int) < (lt.length : Int) := by omega
      clear e1 e2 hk0 hp
      generalize keep lk = kl at *
      generalize knownB lk = b0 at *
      go_upto_region 10 with fail
      refine wp_region_held_drew (S := Sl p k d n) (by kernel_rfl) HS0.out (fun hS => ?_)
      have HV := Lib.hid (show Lst w1.heap.size wr.drew u8 kl from HV.out)
      have HB := Lib.hid HB.out.drew
      clear HS0 c0 c2
      generalize wr.drew = V at *
      have HLA := Lib.hid (HV.out.below (balloc (Below.refl _ V) (.cells (cellsS (d, n)) 59)))
      have HBA := Lib.hid (HB.out.alloc HB.out.size (.cells (cellsS (d, n)) 59))
      refine H.tk (i := 0) (v := ?v0) ?h0 hS ?_
      case h0 => (intro w hw; go_simp; first | done | (with_reducible rfl))
      try simp only [Act.put, List.setIfInBounds_toArray, List.set_cons_zero, List.set_cons_succ]
      refine H.tk (i := 1) (v := ?v1) ?h1 hS ?_
      case h1 => (intro w hw; go_simp; first | done | (with_reducible rfl))
      try simp only [Act.put, List.setIfInBounds_toArray, List.set_cons_zero, List.set_cons_succ]
      refine H.tk (i := 2) (v := ?v2) ?h2 hS ?_
      case h2 => (intro w hw; go_simp; first | done | (with_reducible rfl))
      try simp only [Act.put, List.setIfInBounds_toArray, List.set_cons_zero, List.set_cons_succ]
      refine H.tk (i := 3) (v := ?v3) ?h3 hS ?_
      case h3 => (intro w hw; go_simp; first | done | (with_reducible rfl))
      try simp only [Act.put, List.setIfInBounds_toArray, List.set_cons_zero, List.set_cons_succ]
      refine H.tk (i := 4) (v := ?v4) ?h4 hS ?_
      case h4 => (intro w hw; go_simp; first | done | (with_reducible rfl))
      try simp only [Act.put, List.setIfInBounds_toArray, List.set_cons_zero, List.set_cons_succ]
      refine H.tk (i := 5) (v := ?v5) ?h5 hS ?_
      case h5 => (intro w hw; obtain ⟨c0, c2⟩ := hw; go_simp; first | done | (with_reducible rfl))
      try simp only [Act.put, List.setIfInBounds_toArray, List.set_cons_zero, List.set_cons_succ]
      refine H.tk (i := 6) (v := ?v6) ?h6 hS ?_
      case h6 => (intro w hw; go_simp; first | done | (with_reducible rfl))
      try simp only [Act.put, List.setIfInBounds_toArray, List.set_cons_zero, List.set_cons_succ]
      refine H.tk (i := 7) (v := ?v7) ?h7 hS ?_
      case h7 => (intro w hw; go_simp; first | done | (with_reducible rfl))
      try simp only [Act.put, List.setIfInBounds_toArray, List.set_cons_zero, List.set_cons_succ]
      refine H.tk (i := 8) (v := ?v8) ?h8 hS ?_
      case h8 => (intro w hw; go_simp; first | done | (with_reducible rfl))
      try simp only [Act.put, List.setIfInBounds_toArray, List.set_cons_zero, List.set_cons_succ]
      refine H.tk (i := 9) (v := ?v9) ?h9 hS ?_
      case h9 => (intro w hw; go_simp; first | done | (with_reducible rfl))
      try simp only [Act.put, List.setIfInBounds_toArray, List.set_cons_zero, List.set_cons_succ]
      refine H.tk (i := 10) (v := ?v10) ?h10 hS ?_
      case h10 => (intro w hw; obtain ⟨c0, c2⟩ := hw; go_simp; first | done | (with_reducible rfl))
      try simp only [Act.put, List.setIfInBounds_toArray, List.set_cons_zero, List.set_cons_succ]
      refine H.tk (i := 11) (v := .agg (cellsS (d, n))) ?h11 hS ?_
      case h11 => exact fun w _ => ex_built rfl (by kernel_rfl)
      try simp only [Act.put, List.setIfInBounds_toArray, List.set_cons_zero, List.set_cons_succ]
      refine H.bsS (i := 12) (m := (d, n)) (by simp only [List.getElem?_toArray, List.getElem?_cons_succ, List.getElem?_cons_zero]; rfl) (by kernel_rfl) (by kernel_rfl) rfl _ rfl rfl (hS.far ((Below.refl w1.heap.size V).alloc HB.out.size (.cells (cellsS (d, n)) 59)) HH.out) ?_
      try simp only [Act.put, List.setIfInBounds_toArray, List.set_cons_zero, List.set_cons_succ]
      have hS := hS.far ((Below.refl w1.heap.size V).alloc HB.out.size (.cells (cellsS (d, n)) 59)) HH.out
      refine H.appS (i := 13) (by simp only [List.getElem?_toArray, List.getElem?_cons_succ, List.getElem?_cons_zero]; rfl) (by kernel_rfl) (by kernel_rfl) rfl (.tmp 40) (.tmp 52) rfl w1.heap.size _ kl (d, n) V.heap.size 1 rfl HLA.out rfl (cells_new (d, n) V) HC.out HBA.out.size (fun W' hg => hS.far ((Below.refl w1.heap.size _).grown hg HBA.out.size (fun k hk => (World.ownsRow.lt HLA.out k hk).1)) HH.out) ?_
      intro v' w' hl2 hg hb
      have hS := hS.far hb HH.out
      try simp only [Act.put, List.setIfInBounds_toArray, List.set_cons_zero, List.set_cons_succ]
      refine H.tk (i := 14) (v := ?v14) ?h14 hS ?_
      case h14 => (intro w hw; go_simp; first | done | (with_reducible rfl))
      try simp only [Act.put, List.setIfInBounds_toArray, List.set_cons_zero, List.set_cons_succ]
      refine wpAnyH_done (by kernel_rfl) ?_ _
      obtain ⟨c0, c2⟩ := hS
      have HV : Hid (Lst w1.heap.size w' v' (keep (els lt (k + 1)))) := Lib.hid (by rw [E1.out]; exact hl2)
      have HB := Lib.hid (HBA.out.trans hb)
      clear hl2 hb hg HLA HBA c2
      cases b0
      · go_wp2
        go_roundw
        case rel => exact ⟨k + 1, hlt, by go_num, bool_val E2.out.symm, HV, HB⟩
        case measure => simp [intOf]; omega
      · go_wp2
        go_roundw
        case rel => exact ⟨k + 1, hlt, by go_num, bool_val E2.out.symm, HV, HB⟩
        case measure => simp [intOf]; omega
    · obtain rfl : k = lt.length := by omega
      rw [els_all, HD.out] at *
      obtain ⟨a2, c2, rfl⟩ := HV.out.slice
      have P3 := Lib.hid (rbytes_any a2 c2 (keep l) wr HV.out.row (by have := HK.out; omega) (by have := HQ.out; omega))
      have HV := Lib.hid (lst_mono HV.out HB1.out.size)
      have HB := Lib.hid (HB1.out.trans (HB.out.mono HB1.out.size))
      have HE := HE.out
      rcases HE with ⟨hq, e⟩ | ⟨hq, e⟩
      · have HY := Lib.hid e
        have hq2 : ((bytesN (keep l) : Nat) : Int) ≤ 200 := by omega
        clear hq e
        generalize ((bytesN (keep l) : Nat) : Int) = n at *
        generalize hg : keep l = kl at *
        generalize hgk : knownB l = kn at *
        clear hg hgk
        go_wp2_with fail
        refine P3.out.mono ?_
        rintro r w3 ⟨rfl, hb⟩
        have HV := Lib.hid (HV.out.below hb)
        have HB := Lib.hid (bcall HB.out hb)
        clear hb P3
        go_wp2
        go_ret3
        exact AnsS.yes HY.out rfl HV.out HB.out
      · have HY := Lib.hid e
        have hq2 : 200 < ((bytesN (keep l) : Nat) : Int) := by omega
        clear hq e
        generalize ((bytesN (keep l) : Nat) : Int) = n at *
        generalize hg : keep l = kl at *
        clear hg
        go_wp2_with fail
        refine P3.out.mono ?_
        rintro r w3 ⟨rfl, hb⟩
        have HB := Lib.hid (bcall HB.out hb)
        clear hb P3 HV
        go_wp2
        go_ret3
        exact AnsS.no HY.out HB.out
end Go.Proofs.YtjhfpobjbijcpaaGreatDoor.S6
