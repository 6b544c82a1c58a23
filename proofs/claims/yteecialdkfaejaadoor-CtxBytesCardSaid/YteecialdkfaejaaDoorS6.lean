/-
  Which Subs bytes hold: the document's Get. Condition: at most 100000 bytes.
-/
import Derived.Test.YteecialdkfaejaaDoorS5
import Derived.Test.YteecialdkfaejaaDoorF5
namespace Go.Proofs.YteecialdkfaejaaDoor.S6
open Go.ChangeShapes Go.WideShapes Go.ChangeAt Go.RowKit
open Go.Proofs.YteecialdkfaejaaDoor.Ms
open Go.Proofs.YteecialdkfaejaaDoor.Cnt
open Go.Proofs.YteecialdkfaejaaDoor.S1
open Go.Proofs.YteecialdkfaejaaDoor.S5
open Go.Proofs.YteecialdkfaejaaDoor.Hs
open Go.Proofs.YteecialdkfaejaaDoor.Hx (ex_built)
open Go.Proofs.YteecialdkfaejaaDoor.F1 (enc1 encT outT placed placed_len okT size_of len_le)
open Go.Proofs.YteecialdkfaejaaDoor.F5 (rsplit_own)
open Go.Proofs.YteecialdkfaejaaDoor.Tl (TRow cellsT indexT add_two)
open Go.Proofs.YteecialdkfaejaaDoor.Sx (cellsS Lst cells_new H.bsS H.appS)
set_option linter.unusedVariables false
set_option maxRecDepth 100000
set_option maxRecDepth 100000

/-- What the loads read. -/
def Sl (p : Addr) (k : Nat) (d : ByteArray) (n : Int) (W : World) : Prop :=
  W.cell? (p.add (k * 3)) = some (.int .i64 n) ∧ W.cell? ⟨(p.add (k * 3)).block, (p.add (k * 3)).off + 2, none⟩ = some (.string d)
theorem Sl.far {B : Nat} {p : Addr} {k : Nat} {d : ByteArray} {n : Int} {W W' : World} (h : Sl p k d n W) (hb : Below B W W') (hp : p.block < B) : Sl p k d n W' :=
  ⟨by rw [hb.cell (by rw [add_block]; exact hp)]; exact h.1, by rw [hb.cell (by show (p.add (k * 3)).block < _; rw [add_block]; exact hp)]; exact h.2⟩

set_option maxHeartbeats 6400000 in
theorem rget_own (s : ByteArray) (w : World) (hs : s.size ≤ 100000) : Calls Tryd.prog 30 #[.string s] w (AnsS (outS s) w) := by
  have P1 := Lib.hid (rsplit_own s 0 w hs (by omega) (by omega))
  rcases outS_cases s with ⟨l, ho, he, e, hk⟩ | ⟨p, e, hk⟩
  rotate_left
  · have HY := Lib.hid hk
    rw [e] at P1
    clear e hk hs
    go_enter Tryd.func30, Tryd.ntmps30
    go_wp2_with fail
    refine P1.out.mono ?_
    rintro r w1 ⟨a1, c1, rfl, h1, hb⟩
    have HB := Lib.hid hb
    clear h1 hb P1
    dsimp only [List.length_nil]
    go_wp2
    go_ret3
    exact AnsS.no HY.out HB.out
  have HZ := size_of he
  have hls := len_le l
  have HQ := Lib.hid (show bytesN (keep l) ≤ 100000 by have := keep_size l; omega)
  have HK := Lib.hid (show (keep l).length ≤ 100000 by have := keep_len l; omega)
  have HP := Lib.hid (show (placed 0 l).length ≤ 100000 by rw [placed_len]; omega)
  have HD := Lib.hid (placed_snd l 0)
  have HE := Lib.hid hk
  rw [e] at P1
  clear e hk hs ho he HZ hls
  go_enter Tryd.func30, Tryd.ntmps30
  go_wp2_with fail
  refine P1.out.mono ?_
  rintro r w1 ⟨a, c, rfl, h1, hb⟩
  have HL := Lib.hid h1.row
  have HB1 := Lib.hid hb
  clear h1 hb P1
  dsimp only
  generalize placed 0 l = lt at *
  go_wp2
  go_loopw [8, 9, 10] (fun v kn i wr => ∃ k : Nat, k ≤ lt.length ∧ i = .int .i64 k ∧ kn = .bool (knownB (els lt k)) ∧ Hid (Lst w1.heap.size wr v (keep (els lt k))) ∧ Hid (Below w1.heap.size w1 wr)) (fun _ _ i _ => lt.length - (intOf i).toNat)
  case atStart => exact ⟨0, Nat.zero_le _, rfl, by rw [els_zero]; rfl, Lib.hid (by rw [els_zero]; exact Lst.nil _ _), Lib.hid (Below.refl _ _)⟩
  case round =>
    obtain ⟨k, hk, rfl, rfl, HV, HB⟩ := hrel
    by_cases hlt : k < lt.length
    · obtain ⟨p, rfl, hp, -, -, -⟩ := HL.out k hlt
      have HH := Lib.hid hp
      clear hp
      obtain ⟨p', hpp, hp, c0, c1, c2⟩ := (HL.out.below HB.out) k hlt
      cases hpp
      have ix := fun W => indexT p lt.length c k hlt W
      have HT := Lib.hid (els_snoc lt k hlt)
      have hk2 : (k : Int) ≤ 100000 := by have := HP.out; omega
      have HC : Hid ((keep (els lt k)).length ≤ 100000) := Lib.hid (by have := HP.out; have := keep_len (els lt k); have := els_len lt k; omega)
      rw [add_two] at c2
      generalize lt[k] = u at *
      generalize els lt k = lk at *
      obtain ⟨at0, d, n⟩ := u
      simp only [] at c0 c1 c2 HT
      clear c1
      by_cases h1 : n < 2
      · have hk0 : keepB (d, n) = false := by unfold keepB; simp; omega
        have e1 := keep_no hk0 lk
        have e2 : knownB (lk ++ [(d, n)]) = knownB lk := by rw [known_snoc]; simp; omega
        rw [← HT.out] at e1 e2
        rw [← e1] at HV
        have E2 := Lib.hid e2
        clear e1 e2 hk0 c2
        have h1' : ¬ 2 ≤ n := by omega
        have h2' : n ≤ 127 := by omega
        generalize knownB lk = b0 at *
        cases b0
        · go_wp2
          go_roundw
          case rel => exact ⟨k + 1, hlt, by go_num, bool_val E2.out.symm, HV, HB⟩
          case measure => simp [intOf]; omega
        · go_wp2
          go_roundw
          case rel => exact ⟨k + 1, hlt, by go_num, bool_val E2.out.symm, HV, HB⟩
          case measure => simp [intOf]; omega
      have h1' : 2 ≤ n := by omega
      by_cases h2 : 127 < n
      · have hk0 : keepB (d, n) = false := by unfold keepB; simp; omega
        have e1 := keep_no hk0 lk
        have e2 : knownB (lk ++ [(d, n)]) = false := by rw [known_snoc]; simp; omega
        rw [← HT.out] at e1 e2
        rw [← e1] at HV
        have E2 := Lib.hid e2
        clear e1 e2 hk0 c2
        have h2' : ¬ n ≤ 127 := by omega
        generalize knownB lk = b0 at *
        cases b0
        · go_wp2
          go_roundw
          case rel => exact ⟨k + 1, hlt, by go_num, bool_val E2.out.symm, HV, HB⟩
          case measure => simp [intOf]; omega
        · go_wp2
          go_roundw
          case rel => exact ⟨k + 1, hlt, by go_num, bool_val E2.out.symm, HV, HB⟩
          case measure => simp [intOf]; omega
      have h2' : n ≤ 127 := by omega
      have hk0 : keepB (d, n) = true := by unfold keepB; simp; omega
      have e1 := keep_yes hk0 lk
      have e2 : knownB (lk ++ [(d, n)]) = knownB lk := by rw [known_snoc]; simp; omega
      rw [← HT.out] at e1 e2
      have E1 := Lib.hid e1
      have E2 := Lib.hid e2
      have HS0 : Hid (Sl p k d n wr.drew) := Lib.hid ⟨c0, c2⟩
      have hkl : (k : Int) < (lt.length : Int) := by omega
      clear e1 e2 hk0 hp
      generalize keep lk = kl at *
      generalize knownB lk = b0 at *
      go_upto_region 10 with fail
      refine wp_region_held_drew (S := Sl p k d n) (by kernel_rfl) HS0.out (fun hS => ?_)
      have HV := Lib.hid (show Lst w1.heap.size wr.drew u8 kl from HV.out)
      have HB := Lib.hid HB.out.drew
      clear HS0 c0 c2
      generalize wr.drew = V at *
      have HLA := Lib.hid (HV.out.below (balloc (Below.refl _ V) (.cells (cellsS (d, n)) 89)))
      have HBA := Lib.hid (HB.out.alloc HB.out.size (.cells (cellsS (d, n)) 89))
      refine H.tk (i := 0) (v := ?v0) ?h0 hS ?_
      case h0 => (intro w hw; go_simp; first | done | (with_reducible rfl))
      try simp only [Act.put, List.setIfInBounds_toArray, List.set_cons_zero, List.set_cons_succ]
      refine H.tk (i := 1) (v := ?v1) ?h1 hS ?_
      case h1 => (intro w hw; go_simp; first | done | (with_reducible rfl))
      try simp only [Act.put, List.setIfInBounds_toArray, List.set_cons_zero, List.set_cons_succ]
      refine H.tk (i := 2) (v := ?v2) ?h2 hS ?_
      case h2 => (intro w hw; go_simp; first | done | (with_reducible rfl))
      try simp only [Act.put, List.setIfInBounds_toArray, List.set_cons_zero, List.set_cons_succ]
      refine H.tk (i := 3) (v := ?v3) ?h3 hS ?_
      case h3 => (intro w hw; go_simp; first | done | (with_reducible rfl))
      try simp only [Act.put, List.setIfInBounds_toArray, List.set_cons_zero, List.set_cons_succ]
      refine H.tk (i := 4) (v := ?v4) ?h4 hS ?_
      case h4 => (intro w hw; go_simp; first | done | (with_reducible rfl))
      try simp only [Act.put, List.setIfInBounds_toArray, List.set_cons_zero, List.set_cons_succ]
      refine H.tk (i := 5) (v := ?v5) ?h5 hS ?_
      case h5 => (intro w hw; obtain ⟨c0, c2⟩ := hw; go_simp; first | done | (with_reducible rfl))
      try simp only [Act.put, List.setIfInBounds_toArray, List.set_cons_zero, List.set_cons_succ]
      refine H.tk (i := 6) (v := ?v6) ?h6 hS ?_
      case h6 => (intro w hw; go_simp; first | done | (with_reducible rfl))
      try simp only [Act.put, List.setIfInBounds_toArray, List.set_cons_zero, List.set_cons_succ]
      refine H.tk (i := 7) (v := ?v7) ?h7 hS ?_
      case h7 => (intro w hw; go_simp; first | done | (with_reducible rfl))
      try simp only [Act.put, List.setIfInBounds_toArray, List.set_cons_zero, List.set_cons_succ]
      refine H.tk (i := 8) (v := ?v8) ?h8 hS ?_
      case h8 => (intro w hw; go_simp; first | done | (with_reducible rfl))
      try simp only [Act.put, List.setIfInBounds_toArray, List.set_cons_zero, List.set_cons_succ]
      refine H.tk (i := 9) (v := ?v9) ?h9 hS ?_
      case h9 => (intro w hw; go_simp; first | done | (with_reducible rfl))
      try simp only [Act.put, List.setIfInBounds_toArray, List.set_cons_zero, List.set_cons_succ]
      refine H.tk (i := 10) (v := ?v10) ?h10 hS ?_
      case h10 => (intro w hw; obtain ⟨c0, c2⟩ := hw; go_simp; first | done | (with_reducible rfl))
      try simp only [Act.put, List.setIfInBounds_toArray, List.set_cons_zero, List.set_cons_succ]
      refine H.tk (i := 11) (v := .agg (cellsS (d, n))) ?h11 hS ?_
      case h11 => exact fun w _ => ex_built rfl (by kernel_rfl)
      try simp only [Act.put, List.setIfInBounds_toArray, List.set_cons_zero, List.set_cons_succ]
      refine H.bsS (i := 12) (m := (d, n)) (by simp only [List.getElem?_toArray, List.getElem?_cons_succ, List.getElem?_cons_zero]; rfl) (by kernel_rfl) (by kernel_rfl) rfl _ rfl rfl (hS.far ((Below.refl w1.heap.size V).alloc HB.out.size (.cells (cellsS (d, n)) 89)) HH.out) ?_
      try simp only [Act.put, List.setIfInBounds_toArray, List.set_cons_zero, List.set_cons_succ]
      have hS := hS.far ((Below.refl w1.heap.size V).alloc HB.out.size (.cells (cellsS (d, n)) 89)) HH.out
      refine H.appS (i := 13) (by simp only [List.getElem?_toArray, List.getElem?_cons_succ, List.getElem?_cons_zero]; rfl) (by kernel_rfl) (by kernel_rfl) rfl (.tmp 40) (.tmp 52) rfl w1.heap.size _ kl (d, n) V.heap.size 1 rfl HLA.out rfl (cells_new (d, n) V) HC.out HBA.out.size (fun W' hg => hS.far ((Below.refl w1.heap.size _).grown hg HBA.out.size (fun k hk => (World.ownsRow.lt HLA.out k hk).1)) HH.out) ?_
      intro v' w' hl2 hg hb
      have hS := hS.far hb HH.out
      try simp only [Act.put, List.setIfInBounds_toArray, List.set_cons_zero, List.set_cons_succ]
      refine H.tk (i := 14) (v := ?v14) ?h14 hS ?_
      case h14 => (intro w hw; go_simp; first | done | (with_reducible rfl))
      try simp only [Act.put, List.setIfInBounds_toArray, List.set_cons_zero, List.set_cons_succ]
      refine wpAnyH_done (by kernel_rfl) ?_ _
      obtain ⟨c0, c2⟩ := hS
      have HV : Hid (Lst w1.heap.size w' v' (keep (els lt (k + 1)))) := Lib.hid (by rw [E1.out]; exact hl2)
      have HB := Lib.hid (HBA.out.trans hb)
      clear hl2 hb hg HLA HBA c2
      cases b0
      · go_wp2
        go_roundw
        case rel => exact ⟨k + 1, hlt, by go_num, bool_val E2.out.symm, HV, HB⟩
        case measure => simp [intOf]; omega
      · go_wp2
        go_roundw
        case rel => exact ⟨k + 1, hlt, by go_num, bool_val E2.out.symm, HV, HB⟩
        case measure => simp [intOf]; omega
    · obtain rfl : k = lt.length := by omega
      rw [els_all, HD.out] at *
      obtain ⟨a2, c2, rfl⟩ := HV.out.slice
      have P3 := Lib.hid (rbytes_any a2 c2 (keep l) wr HV.out.row (by have := HK.out; omega) (by have := HQ.out; omega))
      have HV := Lib.hid (lst_mono HV.out HB1.out.size)
      have HB := Lib.hid (HB1.out.trans (HB.out.mono HB1.out.size))
      have HE := HE.out
      rcases HE with ⟨hq, e⟩ | ⟨hq, e⟩
      · have HY := Lib.hid e
        have hq2 : ((bytesN (keep l) : Nat) : Int) ≤ 200 := by omega
        clear hq e
        generalize ((bytesN (keep l) : Nat) : Int) = n at *
        generalize hg : keep l = kl at *
        generalize hgk : knownB l = kn at *
        clear hg hgk
        go_wp2_with fail
        refine P3.out.mono ?_
        rintro r w3 ⟨rfl, hb⟩
        have HV := Lib.hid (HV.out.below hb)
        have HB := Lib.hid (bcall HB.out hb)
        clear hb P3
        go_wp2
        go_ret3
        exact AnsS.yes HY.out rfl HV.out HB.out
      · have HY := Lib.hid e
        have hq2 : 200 < ((bytesN (keep l) : Nat) : Int) := by omega
        clear hq e
        generalize ((bytesN (keep l) : Nat) : Int) = n at *
        generalize hg : keep l = kl at *
        clear hg
        go_wp2_with fail
        refine P3.out.mono ?_
        rintro r w3 ⟨rfl, hb⟩
        have HB := Lib.hid (bcall HB.out hb)
        clear hb P3 HV
        go_wp2
        go_ret3
        exact AnsS.no HY.out HB.out
end Go.Proofs.YteecialdkfaejaaDoor.S6
