/-
  The TLVs of bytes: the document's Split. Condition: at most 100000 bytes, from a place of at most 2^40 on.
-/
import Derived.Test.YteecialdkfaejaaDoorF4
namespace Go.Proofs.YteecialdkfaejaaDoor.F5
open Go.ChangeShapes Go.WideShapes Go.ChangeAt Go.RowKit
open Go.Proofs.YteecialdkfaejaaDoor.F1
open Go.Proofs.YteecialdkfaejaaDoor.F2
open Go.Proofs.YteecialdkfaejaaDoor.F4
open Go.Proofs.YteecialdkfaejaaDoor.Bk (Bk Sh wpList_builtK)
open Go.Proofs.YteecialdkfaejaaDoor.Hs
open Go.Proofs.YteecialdkfaejaaDoor.Hx (conv8 ex_built)
open Go.Proofs.YteecialdkfaejaaDoor.Tl (cellsT oneT Lst bs_one app_one cells_new H.bsT H.appT)
set_option linter.unusedVariables false
set_option maxRecDepth 100000
set_option maxRecDepth 100000

set_option maxHeartbeats 6400000 in
theorem rsplit_own (s : ByteArray) (base : Int) (w : World) (hs : s.size ≤ 100000) (h0 : 0 ≤ base) (h1 : base ≤ 1099511627776) : Calls Tryd.prog 57 #[.string s, .int .i64 base] w (AnsT (outT base s) w) := by
  have HS := Lib.hid hs
  have hbs : (s.size : Int) ≤ 100000 := by omega
  clear hs
  go_enter Tryd.func57, Tryd.ntmps57
  go_wp2
  go_loopw [7, 8] (fun v pv wr => ∃ (l : List El) (p : Nat) (r : List UInt8), pv = .int .i64 (p : Int) ∧ Hid ((encT l).length = p) ∧ Hid (Lst w.heap.size wr v (placed base l)) ∧ Hid (okT l) ∧ Hid (s.data.toList = encT l ++ r) ∧ Hid (Below w.heap.size w wr)) (fun _ pv _ => s.size - (intOf pv).toNat)
  case atStart => exact ⟨[], 0, s.data.toList, rfl, Lib.hid rfl, Lib.hid (Lst.nil _ _), Lib.hid okT_nil, Lib.hid rfl, Lib.hid (Below.refl _ _)⟩
  case round =>
    obtain ⟨l, p, r, rfl, HP, HL, HO, HE, HB⟩ := hrel
    have HZ : Hid (s.size = p + r.length) := Lib.hid (by rw [size_of HE.out, List.length_append, HP.out])
    have hp0 : 0 ≤ (p : Int) := Int.natCast_nonneg _
    have hp1 : (p : Int) ≤ 100000 := by have := HZ.out; have := HS.out; omega
    by_cases hu : r = []
    · subst hu
      have HY := Lib.hid (out_yes (base := base) HO.out (by rw [HE.out, List.append_nil]))
      have e1 : ¬ (p : Int) < (s.size : Int) := by have := HZ.out; simp only [List.length_nil] at this; omega
      obtain ⟨a, c, rfl⟩ := HL.out.slice
      have HW := Lib.hid HL.out
      clear HL HP HZ HE
      go_wp2
      go_ret3
      exact AnsT.yes HY.out rfl HW.out HB.out
    obtain ⟨k1, k2, k3⟩ := F1.step HE.out HP.out hu
    have e1 : (p : Int) < (s.size : Int) := by omega
    have i0 := idx s p (p : Int) rfl (by omega)
    have HCC : Hid ((placed base l).length ≤ 100000) := Lib.hid (by rw [placed_len]; have := HS.out; have := HP.out; have := HZ.out; have := len_le l; omega)
    rcases k3 with ⟨b0, r', hc⟩ | ⟨b0, k4, hc⟩ | ⟨n, b0, k4, b1, kn, ⟨k5, hc⟩ | ⟨k5, x, r', hc, x1, x2, x3⟩⟩
    · rw [b0] at i0
      obtain ⟨ho, he⟩ := cut1_some hc
      have HO := Lib.hid (okT_snoc HO.out ho)
      have HE : Hid (s.data.toList = encT (l ++ [(⟨#[]⟩, 0)]) ++ r') := Lib.hid (by rw [HE.out, he, encT_snoc, List.append_assoc])
      have HPL : Hid (placed base (l ++ [(⟨#[]⟩, 0)]) = placed base l ++ [(base + (p : Int), (⟨#[]⟩, 0))]) := Lib.hid (by rw [placed_snoc, HP.out])
      have HP2 : Hid ((encT (l ++ [(⟨#[]⟩, 0)])).length = p + 1) := Lib.hid (by rw [encT_snoc, List.length_append, HP.out]; rfl)
      have HM : Hid (s.size - p > s.size - (p + 1)) := Lib.hid (by omega)
      have HLA := Lib.hid (HL.out.below (balloc (Below.refl _ wr) (.cells (cellsT (base + (p : Int), (⟨#[]⟩, 0))) 29)))
      have HBA := Lib.hid (balloc HB.out (.cells (cellsT (base + (p : Int), (⟨#[]⟩, 0))) 29))
      clear hu hc ho he HZ HP b0 k1 k2 HL HB
      generalize placed base l = lp at *
      go_upto_region 6 with (first | (refine wpList_builtK rfl 29 _ rfl (cellsT (base + (p : Int), (⟨#[]⟩, 0))) (by kernel_rfl) ?_) | (refine bs_one rfl _ rfl (m := (base + (p : Int), (⟨#[]⟩, 0))) rfl ?_) | (at_builtin; refine app_one rfl _ _ rfl w.heap.size _ lp (base + (p : Int), (⟨#[]⟩, 0)) wr.heap.size 1 rfl HLA.out rfl (cells_new (base + (p : Int), (⟨#[]⟩, 0)) wr) HCC.out HBA.out.size ?_))
      intro v' w' hl hgr hb
      have HL := Lib.hid hl
      have HB := Lib.hid (HBA.out.trans hb)
      rw [← HPL.out] at HL
      clear hl hgr hb HLA HBA HPL HCC i0
      go_wp2
      go_roundw
      case rel => exact ⟨l ++ [(⟨#[]⟩, 0)], p + 1, r', by push_cast; rfl, HP2, HL, HO, HE, HB⟩
      case measure => have := HM.out; simp only [intOf]; omega
    · have HY := Lib.hid (out_no (base := base) HO.out HE.out hc hu)
      rw [HP.out] at HY
      have n0 := bt_nn s p
      have l0 := bt_lt s p
      have h2 : (s.size : Int) - (p : Int) < 2 := by omega
      clear hu hc HZ HP HE HO k1 k2 k4 HL HCC
      generalize bt s p = b at *
      go_wp2
      go_ret3
      exact AnsT.no HY.out HB.out
    · have HY := Lib.hid (out_no (base := base) HO.out HE.out hc hu)
      rw [HP.out] at HY
      have n0 := bt_nn s p
      have l0 := bt_lt s p
      have j1 := idx s (p + 1) ((p : Int) + 1) (by push_cast; rfl) (by omega)
      rw [b1] at j1
      have v1 := conv8 (n : Int) (by omega) (by omega)
      have h2 : ¬ (s.size : Int) - (p : Int) < 2 := by omega
      have h4 : (s.size : Int) - (p : Int) - 2 < (n : Int) := by omega
      have kn0 : 0 ≤ (n : Int) := by omega
      have kn1 : (n : Int) ≤ 255 := by omega
      clear hu hc HZ HP HE HO k1 k2 k4 k5 kn b1 HL HCC
      generalize bt s p = b at *
      generalize (n : Int) = ni at *
      go_wp2
      go_ret3
      exact AnsT.no HY.out HB.out
    · obtain ⟨ho, he⟩ := cut1_some hc
      have hl : (enc1 x).length = 2 + n := by rw [enc1_len, if_neg (by rw [x1]; exact b0), x3]
      have HO := Lib.hid (okT_snoc HO.out ho)
      have HE : Hid (s.data.toList = encT (l ++ [x]) ++ r') := Lib.hid (by rw [HE.out, he, encT_snoc, List.append_assoc])
      have HPL : Hid (placed base (l ++ [x]) = placed base l ++ [(base + (p : Int), x)]) := Lib.hid (by rw [placed_snoc, HP.out])
      have HP2 : Hid ((encT (l ++ [x])).length = p + 2 + n) := Lib.hid (by rw [encT_snoc, List.length_append, HP.out, hl]; omega)
      have HM : Hid (s.size - p > s.size - (p + 2 + n)) := Lib.hid (by omega)
      have n0 := bt_nn s p
      have l0 := bt_lt s p
      have j1 := idx s (p + 1) ((p : Int) + 1) (by push_cast; rfl) (by omega)
      rw [b1] at j1
      have v1 := conv8 (n : Int) (by omega) (by omega)
      have v0 := conv8 (bt s p) n0 l0
      have h2 : ¬ (s.size : Int) - (p : Int) < 2 := by omega
      have h4 : ¬ (s.size : Int) - (p : Int) - 2 < (n : Int) := by omega
      have kn0 : 0 ≤ (n : Int) := by omega
      have kn1 : (n : Int) ≤ 255 := by omega
      have s2 := sl_m s ((p : Int) + 2) ((p : Int) + 2 + (n : Int)) (p + 2) (p + 2 + n) (by push_cast; rfl) (by push_cast; rfl) (by omega) (by omega)
      have HX := Lib.hid (show cellsT (base + (p : Int), x) = #[.int .i64 x.2, .int .i64 (base + (p : Int)), .string x.1] from rfl)
      rw [x1, x2] at HX
      clear hu hc ho he hl HZ HP k1 k2 k4 k5 kn b1 x1 x2 x3
      generalize bt s p = b at *
      generalize s.extract (p + 2) (p + 2 + n) = dd at *
      generalize placed base l = lp at *
      go_upto_region 10 with fail
      have q1 : IntKind.i64.wrap ((p : Int) + 2) = (p : Int) + 2 := IntWalk.i64_in _ (by omega)
      have q2 : IntKind.i64.wrap ((p : Int) + 2 + (n : Int)) = (p : Int) + 2 + (n : Int) := IntWalk.i64_in _ (by omega)
      have q3 : wrap64 ((p : Int) + 2) = (p : Int) + 2 := IntWalk.wrap64_in _ (by omega)
      have q4 : wrap64 ((p : Int) + 2 + (n : Int)) = (p : Int) + 2 + (n : Int) := IntWalk.wrap64_in _ (by omega)
      have q5 : IntKind.i64.wrap (base + (p : Int)) = base + (p : Int) := IntWalk.i64_in _ (by omega)
      have q6 : wrap64 (base + (p : Int)) = base + (p : Int) := IntWalk.wrap64_in _ (by omega)
      refine wp_region_held_drew (S := fun _ => True) (by kernel_rfl) trivial (fun hS => ?_)
      have HL := Lib.hid (show Lst w.heap.size wr.drew u7 lp from HL.out)
      have HB := Lib.hid (HB.out.drew)
      generalize wr.drew = w1 at *
      have HLA := Lib.hid (HL.out.below (balloc (Below.refl _ w1) (.cells (cellsT (base + (p : Int), x)) 29)))
      have HBA := Lib.hid (balloc HB.out (.cells (cellsT (base + (p : Int), x)) 29))
      refine H.tk (i := 0) (v := ?v0) ?h0 hS ?_
      case h0 => (intro w hw; go_simp; first | done | (with_reducible rfl))
      try simp only [Act.put, List.setIfInBounds_toArray, List.set_cons_zero, List.set_cons_succ]
      refine H.tk (i := 1) (v := ?v1) ?h1 hS ?_
      case h1 => (intro w hw; go_simp; first | done | (with_reducible rfl))
      try simp only [Act.put, List.setIfInBounds_toArray, List.set_cons_zero, List.set_cons_succ]
      refine H.tk (i := 2) (v := ?v2) ?h2 hS ?_
      case h2 => (intro w hw; go_simp; first | done | (with_reducible rfl))
      try simp only [Act.put, List.setIfInBounds_toArray, List.set_cons_zero, List.set_cons_succ]
      refine H.tk (i := 3) (v := ?v3) ?h3 hS ?_
      case h3 => (intro w hw; go_simp; first | done | (with_reducible rfl))
      try simp only [Act.put, List.setIfInBounds_toArray, List.set_cons_zero, List.set_cons_succ]
      refine H.tk (i := 4) (v := ?v4) ?h4 hS ?_
      case h4 => (intro w hw; go_simp; first | done | (with_reducible rfl))
      try simp only [Act.put, List.setIfInBounds_toArray, List.set_cons_zero, List.set_cons_succ]
      refine H.tk (i := 5) (v := ?v5) ?h5 hS ?_
      case h5 => (intro w hw; go_simp; first | done | (with_reducible rfl))
      try simp only [Act.put, List.setIfInBounds_toArray, List.set_cons_zero, List.set_cons_succ]
      refine H.tk (i := 6) (v := ?v6) ?h6 hS ?_
      case h6 => (intro w hw; go_simp; first | done | (with_reducible rfl))
      try simp only [Act.put, List.setIfInBounds_toArray, List.set_cons_zero, List.set_cons_succ]
      refine H.tk (i := 7) (v := ?v7) ?h7 hS ?_
      case h7 => (intro w hw; go_simp; first | done | (with_reducible rfl))
      try simp only [Act.put, List.setIfInBounds_toArray, List.set_cons_zero, List.set_cons_succ]
      refine H.tk (i := 8) (v := ?v8) ?h8 hS ?_
      case h8 => (intro w hw; go_simp; first | done | (with_reducible rfl))
      try simp only [Act.put, List.setIfInBounds_toArray, List.set_cons_zero, List.set_cons_succ]
      refine H.tk (i := 9) (v := ?v9) ?h9 hS ?_
      case h9 => (intro w hw; go_simp; first | done | (with_reducible rfl))
      try simp only [Act.put, List.setIfInBounds_toArray, List.set_cons_zero, List.set_cons_succ]
      refine H.tk (i := 10) (v := ?v10) ?h10 hS ?_
      case h10 => (intro w hw; go_simp; first | done | (with_reducible rfl))
      try simp only [Act.put, List.setIfInBounds_toArray, List.set_cons_zero, List.set_cons_succ]
      refine H.tk (i := 11) (v := ?v11) ?h11 hS ?_
      case h11 => (intro w hw; go_simp; first | done | (with_reducible rfl))
      try simp only [Act.put, List.setIfInBounds_toArray, List.set_cons_zero, List.set_cons_succ]
      refine H.tk (i := 12) (v := ?v12) ?h12 hS ?_
      case h12 => (intro w hw; go_simp; first | done | (with_reducible rfl))
      try simp only [Act.put, List.setIfInBounds_toArray, List.set_cons_zero, List.set_cons_succ]
      refine H.tk (i := 13) (v := ?v13) ?h13 hS ?_
      case h13 => (intro w hw; go_simp; first | done | (with_reducible rfl))
      try simp only [Act.put, List.setIfInBounds_toArray, List.set_cons_zero, List.set_cons_succ]
      refine H.tk (i := 14) (v := ?v14) ?h14 hS ?_
      case h14 => (intro w hw; go_simp; first | done | (with_reducible rfl))
      try simp only [Act.put, List.setIfInBounds_toArray, List.set_cons_zero, List.set_cons_succ]
      refine H.tk (i := 15) (v := ?v15) ?h15 hS ?_
      case h15 => (intro w hw; go_simp; first | done | (with_reducible rfl))
      try simp only [Act.put, List.setIfInBounds_toArray, List.set_cons_zero, List.set_cons_succ]
      refine H.tk (i := 16) (v := .agg (cellsT (base + (p : Int), x))) ?h16 hS ?_
      case h16 => rw [HX.out]; exact fun w _ => ex_built rfl (by kernel_rfl)
      try simp only [Act.put, List.setIfInBounds_toArray, List.set_cons_zero, List.set_cons_succ]
      refine H.bsT (i := 17) (m := (base + (p : Int), x)) (by simp only [List.getElem?_toArray, List.getElem?_cons_succ, List.getElem?_cons_zero]; rfl) (by kernel_rfl) (by kernel_rfl) rfl _ rfl rfl trivial ?_
      try simp only [Act.put, List.setIfInBounds_toArray, List.set_cons_zero, List.set_cons_succ]
      refine H.appT (i := 18) (by simp only [List.getElem?_toArray, List.getElem?_cons_succ, List.getElem?_cons_zero]; rfl) (by kernel_rfl) (by kernel_rfl) rfl (.tmp 53) (.tmp 70) rfl w.heap.size _ lp (base + (p : Int), x) w1.heap.size 1 rfl HLA.out rfl (cells_new (base + (p : Int), x) w1) HCC.out HBA.out.size (fun _ _ => trivial) ?_
      intro v' w' hl _ hb
      try simp only [Act.put, List.setIfInBounds_toArray, List.set_cons_zero, List.set_cons_succ]
      refine H.tk (i := 19) (v := ?v19) ?h19 hS ?_
      case h19 => (intro w hw; go_simp; first | done | (with_reducible rfl))
      try simp only [Act.put, List.setIfInBounds_toArray, List.set_cons_zero, List.set_cons_succ]
      refine wpAnyH_done (by kernel_rfl) ?_ _
      have HL := Lib.hid hl
      have HB := Lib.hid (HBA.out.trans hb)
      rw [← HPL.out] at HL
      clear hl hb HLA HBA HPL HCC HX s2 i0 j1 v0 v1
      go_wp2
      go_roundw
      case rel => exact ⟨l ++ [x], p + 2 + n, r', by push_cast; rfl, HP2, HL, HO, HE, HB⟩
      case measure => have := HM.out; simp only [intOf]; omega
end Go.Proofs.YteecialdkfaejaaDoor.F5
