/-
  The statement FrameBack, of any two texts. No conditions.
-/
import Derived.Test.YtoeghlbljmdchaaF8
namespace Go.Proofs.Ytoeghlbljmdchaa.frameBack
open Go.ChangeShapes Go.WideShapes Go.ChangeAt Go.RowKit
open Go.ChangeMaps (open_string shut_string)
open Go.Proofs.Ytoeghlbljmdchaa.F1
open Go.Proofs.Ytoeghlbljmdchaa.F2
open Go.Proofs.Ytoeghlbljmdchaa.F4
open Go.Proofs.Ytoeghlbljmdchaa.F5
open Go.Proofs.Ytoeghlbljmdchaa.F6
open Go.Proofs.Ytoeghlbljmdchaa.F7
open Go.Proofs.Ytoeghlbljmdchaa.Tl
open Go.Proofs.Ytoeghlbljmdchaa.Hs
open Go.Proofs.Ytoeghlbljmdchaa.Open
set_option linter.unusedVariables false

theorem cat_list (a b : ByteArray) : (a ++ b).data.toList = a.data.toList ++ b.data.toList := by simp
theorem placed_get : ∀ (l : List El) (p : Int) (k : Nat) (h : k < l.length) (h' : k < (placed p l).length), (placed p l)[k] = (p + ((encT (l.take k)).length : Int), l[k])
  | [], _, _, h, _ => absurd h (Nat.not_lt_zero _)
  | x :: l, p, 0, _, _ => by simp [placed, encT]
  | x :: l, p, k + 1, h, h' => by
    have := placed_get l (p + ((enc1 x).length : Int)) k (by simpa using h) (by rw [placed_len]; simpa using h)
    simp only [placed, List.getElem_cons_succ, List.take_succ_cons, encT_cons, List.length_append, this]
    congr 1
    push_cast
    omega
/-- The list stands, and all that was there. -/
structure SB (w : World) (p : Addr) (l : List T) (W : World) : Prop where
  row : TRow W (some p) l
  bel : Below w.heap.size w W
theorem SB.keep {w : World} {p : Addr} {l : List T} (W w1 : World) (h : SB w p l W) (hb : Below W.heap.size W w1) : SB w p l w1 := ⟨h.row.below hb, bcall h.bel hb⟩
theorem SB.drew {w : World} {p : Addr} {l : List T} {W : World} (h : SB w p l W) : SB w p l W.drew := ⟨h.row.below (Below.refl _ W).drew, h.bel.drew⟩
theorem SB.at {w W : World} {p : Addr} {l : List T} (h : SB w p l W) (k : Nat) (hk : k < l.length) : W.cell? (p.add (k * 3)) = some (.int .i64 l[k].2.2) ∧ W.cell? ⟨(p.add (k * 3)).block, (p.add (k * 3)).off + 1, none⟩ = some (.int .i64 l[k].1) ∧ W.cell? ⟨(p.add (k * 3)).block, (p.add (k * 3)).off + 2, none⟩ = some (.string l[k].2.1) := by
  obtain ⟨q, hq, _, c0, c1, c2⟩ := h.row k hk
  cases hq
  rw [add_one] at c1
  rw [add_two] at c2
  exact ⟨c0, c1, c2⟩
theorem int_same (i : Int) : (i == i) = true := by simp

set_option maxHeartbeats 6400000 in
set_option maxRecDepth 100000 in
theorem walk (b t : ByteArray) (w : World) (hm : b.size ≤ maxLen) (hm2 : t.size ≤ maxLen) :
    Calls Try.prog 5 #[.string b, .string t] w fun r w' => r = .returned (.bool true) ∧ Below w.heap.size w w' := by
  unfold maxLen at hm hm2
  by_cases hs : 3000 < b.size
  · clear hm2
    go_enter Try.func5, Try.ntmps5
    go_wp2_with fail
    refine (awake_any _).mono ?_
    rintro r w1 ⟨rfl, hb⟩
    have HB := Lib.hid hb
    clear hb
    go_wp2
    go_ret
    exact ⟨rfl, HB.out⟩
  by_cases ht : 3000 < t.size
  · have hs2 : ¬ (3000 : Int) < (b.size : Int) := by omega
    clear hs
    go_enter Try.func5, Try.ntmps5
    go_wp2_with fail
    refine (awake_any _).mono ?_
    rintro r w1 ⟨rfl, hb⟩
    have HB := Lib.hid hb
    clear hb
    go_wp2
    go_ret
    exact ⟨rfl, HB.out⟩
  have hw1 : decide (b.size ≤ 65531) = true := decide_eq_true (by omega)
  have hwz : (wrap b).size = 4 + b.size := wrap_size (by omega)
  obtain ⟨q1, q2, q3⟩ := wrap_back (s := b) (t := t) (by omega)
  have hzz : (wrap b ++ t).size ≤ maxLen := by rw [ByteArray.size_append, hwz]; unfold maxLen; omega
  have P1 := Lib.hid (fun W => wrap_any b W (by omega))
  have P2 := Lib.hid (fun W => body_any (wrap b ++ t) W hzz)
  have P3 := Lib.hid (fun W => trailer_any (wrap b ++ t) W hzz q3)
  have P4 := Lib.hid (fun W => split_own b 4 W (by omega) (by omega) (by omega))
  unfold WrapIs at P1
  unfold BodyIs at P2
  rw [hw1] at P1
  rw [q1] at P2
  rw [q2] at P3
  have ct := cat_is (wrap b) t _ (by omega) (by omega) rfl
  have e1 := bytes_same b
  have e2 := bytes_same t
  have HS := Lib.hid (show b.size ≤ 3000 by omega)
  have hs3 : ¬ (3000 : Int) < (b.size : Int) := by omega
  have ht3 : ¬ (3000 : Int) < (t.size : Int) := by omega
  clear hm hm2 hs ht q1 q2 q3 hw1 hwz hzz
  generalize wrap b ++ t = wt at *
  generalize wrap b = wb at *
  rcases out_cases 4 b with ⟨l, ol, el, ql⟩ | ⟨l, rl, ol, el, cl, nl, ql⟩
  rotate_left
  · rw [ql] at P4
    have hbz : ((encT l).length : Int) < (b.size : Int) := by
      have h1 := size_of el
      rw [List.length_append] at h1
      have h2 : 0 < rl.length := by
        cases rl with
        | nil => exact absurd rfl nl
        | cons _ _ => simp
      omega
    have hb1 : (4 : Int) ≤ 4 + ((encT l).length : Int) := by omega
    have hb2 : (4 : Int) + ((encT l).length : Int) < 4 + (b.size : Int) := by omega
    have hq1 : wrap64 (4 + (b.size : Int)) = 4 + (b.size : Int) := IntWalk.wrap64_in _ (by have := HS.out; omega)
    clear ql el ol cl nl hbz
    generalize (4 : Int) + ((encT l).length : Int) = pl at *
    go_enter Try.func5, Try.ntmps5
    go_wp2_with fail
    refine (P1.out _).mono ?_
    rintro r w1 ⟨rfl, hb⟩
    have HB := Lib.hid hb
    clear hb  P1
    go_wp2_with fail
    refine (P2.out _).mono ?_
    rintro r w2 ⟨rfl, hb⟩
    have HB := Lib.hid (bcall HB.out hb)
    clear hb  P2
    dsimp only
    go_wp2_with fail
    refine (P3.out _).mono ?_
    rintro r w3 ⟨rfl, hb⟩
    have HB := Lib.hid (bcall HB.out hb)
    clear hb  P3
    go_wp2_with fail
    refine (P4.out _).mono ?_
    rintro r w4 ⟨a1, k1, rfl, m1, hb⟩
    have M1 := Lib.hid m1
    have HB := Lib.hid (bcall HB.out hb)
    clear hb m1 P4
    dsimp only [List.length_nil]
    go_wp2_with fail
    refine (awake_any _).mono ?_
    rintro r w5 ⟨rfl, hb⟩
    have HB := Lib.hid (bcall HB.out hb)
    clear hb
    go_wp2
    go_ret
    exact ⟨rfl, HB.out⟩
  rw [ql] at P4
  have HLN := Lib.hid (show l.length ≤ 3000 by have h1 := size_of el; have h2 := len_le l; have := HS.out; omega)
  have HO := Lib.hid ol
  have HE := Lib.hid el
  clear ql ol el
  go_enter Try.func5, Try.ntmps5
  go_wp2_with fail
  refine (P1.out _).mono ?_
  rintro r w1 ⟨rfl, hb⟩
  have HB := Lib.hid hb
  clear hb  P1
  go_wp2_with fail
  refine (P2.out _).mono ?_
  rintro r w2 ⟨rfl, hb⟩
  have HB := Lib.hid (bcall HB.out hb)
  clear hb  P2
  dsimp only
  go_wp2_with fail
  refine (P3.out _).mono ?_
  rintro r w3 ⟨rfl, hb⟩
  have HB := Lib.hid (bcall HB.out hb)
  clear hb  P3
  go_wp2_with fail
  refine (P4.out _).mono ?_
  rintro r w4 ⟨a1, k1, rfl, m1, hb⟩
  have M1 := Lib.hid m1
  have HB := Lib.hid (bcall HB.out hb)
  clear hb m1 P4
  dsimp only [List.length_nil]
  have HR := Lib.hid M1.out.row
  clear M1
  have hpn := placed_len l 4
  have HPG := Lib.hid (placed_get l 4)
  generalize placed 4 l = pl at *
  rw [hpn]
  go_wp2
  go_loopw [13, 14] (fun u iv wr => ∃ (z : ByteArray) (k : Nat), u = .string z ∧ iv = .int .i64 (k : Int) ∧ k ≤ l.length ∧ Hid (z.data.toList = encT (l.take k)) ∧ Hid (TRow wr a1 pl) ∧ Hid (Below w.heap.size w wr)) (fun _ iv _ => l.length - (intOf iv).toNat)
  case atStart => exact ⟨⟨#[]⟩, 0, rfl, rfl, Nat.zero_le _, Lib.hid rfl, HR, HB⟩
  case round =>
    obtain ⟨z, k, rfl, rfl, hk, HZ, HR, HB⟩ := hrel
    by_cases hlt : k < l.length
    rotate_left
    · obtain rfl : k = l.length := by omega
      have hz : z = b := Nu.text_eq (by rw [HZ.out, List.take_length, HE.out])
      subst hz
      clear hk hlt HPG
      have e1 := bytes_same z
      go_wp2_with fail
      refine (awake_any _).mono ?_
      rintro r w5 ⟨rfl, hb⟩
      have HB := Lib.hid (bcall HB.out hb)
      clear hb
      go_wp2
      go_ret
      exact ⟨rfl, HB.out⟩
    have hlp : k < pl.length := by omega
    obtain ⟨p, rfl, _⟩ := HR.out k hlp
    have ix := fun W => indexT p l.length k1 k hlt W
    have hpk := HPG.out k hlt hlp
    have HSB := Lib.hid (SB.mk HR.out HB.out)
    have hk3 : (k : Int) ≤ 3000 := by have := HLN.out; omega
    have h1 : (encT (l.take k)).length = z.size := by rw [← HZ.out]; simp
    have hzs : z.size ≤ 3000 := by
      have h2 := size_of HE.out
      have h3 : encT l = encT (l.take k) ++ encT (l.drop k) := by rw [← encT_append, List.take_append_drop]
      rw [h3, List.length_append] at h2
      have := HS.out
      omega
    have hok := HO.out l[k] (List.getElem_mem hlt)
    have HN : Hid (encT (l.take (k + 1)) = z.data.toList ++ enc1 l[k]) := Lib.hid (by rw [List.take_succ_eq_append_getElem hlt, encT_snoc, HZ.out])
    rw [h1] at hpk
    have HCE := Lib.hid (fun (W : World) (h : SB w p pl W) => h.at k hlp)
    rw [hpk] at HCE
    have hq1 : wrap64 (4 + (z.size : Int)) = 4 + (z.size : Int) := IntWalk.wrap64_in _ (by omega)
    have hq2 : ((4 + (z.size : Int)) != (4 + (z.size : Int))) = false := by simp
    have hdz : l[k].1.size ≤ 255 := hok.2.2.1
    have hen : (enc1 l[k]).length ≤ 257 := by rw [enc1_len]; split <;> omega
    have PP := Lib.hid (fun W => put_any l[k].2 l[k].1 W (by omega))
    unfold PutIs at PP
    clear HZ HR h1 hpk HPG
    generalize hx : l[k] = x at *
    obtain ⟨d, ty⟩ := x
    obtain ⟨c0, c1, c2⟩ := HCE.out _ HSB.out
    dsimp only at c0 c1 c2 PP hdz
    by_cases hty : ty = 0
    · subst hty
      have hd0 := hok.2.2.2 rfl
      dsimp only at hd0
      subst hd0
      have hpb : putB 0 (⟨#[]⟩ : ByteArray) = false := rfl
      have hpo : putO 0 (⟨#[]⟩ : ByteArray) = ⟨#[]⟩ := rfl
      rw [hpb, hpo] at PP
      have HN : Hid (encT (l.take (k + 1)) = z.data.toList ++ [0]) := Lib.hid (by rw [HN.out]; rfl)
      have cz := cat_is z ⟨#[0]⟩ _ (by omega) (by show 1 ≤ 2000000; omega) rfl
      have HNz : Hid ((z ++ ⟨#[0]⟩).data.toList = encT (l.take (k + 1))) := Lib.hid (by rw [HN.out, cat_list])
      have e0 := bytes_same ⟨#[]⟩
      clear hen hok HN hdz
      generalize z ++ ⟨#[0]⟩ = z2 at *
      go_upto_region 16 with fail
      clear c0 c1 c2
      refine wp_region_held_drew (S := SB w p pl) (by kernel_rfl) HSB.out.drew (fun hS => ?_)
      clear HSB HB
      generalize World.drew _ = X0 at *
      refine H.tk (i := 0) (v := ?v0) ?h0 hS ?_
      case h0 => (intro w hw; go_simp; first | done | (with_reducible rfl))
      try simp only [Act.put, List.setIfInBounds_toArray, List.set_cons_zero, List.set_cons_succ]
      refine H.tk (i := 1) (v := ?v1) ?h1 hS ?_
      case h1 => (intro w hw; go_simp; first | done | (with_reducible rfl))
      try simp only [Act.put, List.setIfInBounds_toArray, List.set_cons_zero, List.set_cons_succ]
      refine H.tk (i := 2) (v := ?v2) ?h2 hS ?_
      case h2 => (intro w hw; go_simp; first | done | (with_reducible rfl))
      try simp only [Act.put, List.setIfInBounds_toArray, List.set_cons_zero, List.set_cons_succ]
      refine H.tk (i := 3) (v := ?v3) ?h3 hS ?_
      case h3 => (intro w hw; go_simp; first | done | (with_reducible rfl))
      try simp only [Act.put, List.setIfInBounds_toArray, List.set_cons_zero, List.set_cons_succ]
      refine H.tk (i := 4) (v := ?v4) ?h4 hS ?_
      case h4 => (intro w hw; obtain ⟨c0, c1, c2⟩ := HCE.out _ hw; dsimp only at c0 c1 c2; go_simp; first | done | (with_reducible rfl))
      try simp only [Act.put, List.setIfInBounds_toArray, List.set_cons_zero, List.set_cons_succ]
      refine H.tk (i := 5) (v := ?v5) ?h5 hS ?_
      case h5 => (intro w hw; go_simp; first | done | (with_reducible rfl))
      try simp only [Act.put, List.setIfInBounds_toArray, List.set_cons_zero, List.set_cons_succ]
      refine H.tk (i := 6) (v := ?v6) ?h6 hS ?_
      case h6 => (intro w hw; go_simp; first | done | (with_reducible rfl))
      try simp only [Act.put, List.setIfInBounds_toArray, List.set_cons_zero, List.set_cons_succ]
      refine H.tk (i := 7) (v := ?v7) ?h7 hS ?_
      case h7 => (intro w hw; go_simp; first | done | (with_reducible rfl))
      try simp only [Act.put, List.setIfInBounds_toArray, List.set_cons_zero, List.set_cons_succ]
      refine H.tk (i := 8) (v := ?v8) ?h8 hS ?_
      case h8 => (intro w hw; go_simp; first | done | (with_reducible rfl))
      try simp only [Act.put, List.setIfInBounds_toArray, List.set_cons_zero, List.set_cons_succ]
      refine H.tk (i := 9) (v := ?v9) ?h9 hS ?_
      case h9 => (intro w hw; obtain ⟨c0, c1, c2⟩ := HCE.out _ hw; dsimp only at c0 c1 c2; go_simp; first | done | (with_reducible rfl))
      try simp only [Act.put, List.setIfInBounds_toArray, List.set_cons_zero, List.set_cons_succ]
      refine wpAnyH_ready (rs := [10]) (by kernel_rfl) (by simp) ?_
      refine AllReadyH.cons rfl (fun K hK => ?_) AllReadyH.nil
      go_simp
      refine (heldP (SB w p pl) SB.keep (PP.out _) hS).mono ?_
      rintro e w10 ⟨rfl, hS10⟩
      refine hK.out _ _ hS10 (fun _ => ?_)
      clear hK K hS
      have hS := hS10
      clear hS10
      try simp only [Act.put, List.setIfInBounds_toArray, List.set_cons_zero, List.set_cons_succ]
      refine H.tk (i := 11) (v := ?v11) ?h11 hS ?_
      case h11 => (intro w hw; go_simp; first | done | (with_reducible rfl))
      try simp only [Act.put, List.setIfInBounds_toArray, List.set_cons_zero, List.set_cons_succ]
      refine H.tk (i := 12) (v := ?v12) ?h12 hS ?_
      case h12 => (intro w hw; go_simp; first | done | (with_reducible rfl))
      try simp only [Act.put, List.setIfInBounds_toArray, List.set_cons_zero, List.set_cons_succ]
      refine H.tk (i := 13) (v := ?v13) ?h13 hS ?_
      case h13 => (intro w hw; go_simp; first | done | (with_reducible rfl))
      try simp only [Act.put, List.setIfInBounds_toArray, List.set_cons_zero, List.set_cons_succ]
      refine H.tk (i := 14) (v := ?v14) ?h14 hS ?_
      case h14 => (intro w hw; go_simp; first | done | (with_reducible rfl))
      try simp only [Act.put, List.setIfInBounds_toArray, List.set_cons_zero, List.set_cons_succ]
      refine H.tk (i := 15) (v := ?v15) ?h15 hS ?_
      case h15 => (intro w hw; go_simp; first | done | (with_reducible rfl))
      try simp only [Act.put, List.setIfInBounds_toArray, List.set_cons_zero, List.set_cons_succ]
      refine wpAnyH_done (by kernel_rfl) ?_ _
      have HSB := Lib.hid hS
      clear hS PP
      obtain ⟨c0, c1, c2⟩ := HCE.out _ HSB.out
      dsimp only at c0 c1 c2
      go_wp2
      go_region
      all_goals
        have HSB := Lib.hid HSB.out.drew
        clear c0 c1 c2
        go_wp2
        go_roundw
        case rel => exact ⟨z2, k + 1, rfl, by go_num, hlt, HNz, Lib.hid HSB.out.row, Lib.hid HSB.out.bel⟩
        case measure => simp [intOf]; omega
    · obtain ⟨hpb, hpo⟩ := put_ok hok hty
      dsimp only at hpb hpo
      rw [hpb, hpo] at PP
      have HNz : Hid ((z ++ ⟨(enc1 (d, ty)).toArray⟩).data.toList = encT (l.take (k + 1))) := Lib.hid (by rw [HN.out, cat_list])
      have cz := cat_is z ⟨(enc1 (d, ty)).toArray⟩ _ (by omega) (by show (enc1 (d, ty)).toArray.size ≤ 2000000; rw [List.size_toArray]; omega) rfl
      clear hen hok HN hdz hpb hpo
      generalize z ++ ⟨(enc1 (d, ty)).toArray⟩ = z2 at *
      generalize (⟨(enc1 (d, ty)).toArray⟩ : ByteArray) = en at *
      have hty2 : (ty == 0) = false := by simpa using hty
      go_upto_region 16 with fail
      clear c0 c1 c2
      refine wp_region_held_drew (S := SB w p pl) (by kernel_rfl) HSB.out.drew (fun hS => ?_)
      clear HSB HB
      generalize World.drew _ = X0 at *
      refine H.tk (i := 0) (v := ?v0b) ?h0b hS ?_
      case h0b => (intro w hw; go_simp; first | done | (with_reducible rfl))
      try simp only [Act.put, List.setIfInBounds_toArray, List.set_cons_zero, List.set_cons_succ]
      refine H.tk (i := 1) (v := ?v1b) ?h1b hS ?_
      case h1b => (intro w hw; go_simp; first | done | (with_reducible rfl))
      try simp only [Act.put, List.setIfInBounds_toArray, List.set_cons_zero, List.set_cons_succ]
      refine H.tk (i := 2) (v := ?v2b) ?h2b hS ?_
      case h2b => (intro w hw; go_simp; first | done | (with_reducible rfl))
      try simp only [Act.put, List.setIfInBounds_toArray, List.set_cons_zero, List.set_cons_succ]
      refine H.tk (i := 3) (v := ?v3b) ?h3b hS ?_
      case h3b => (intro w hw; go_simp; first | done | (with_reducible rfl))
      try simp only [Act.put, List.setIfInBounds_toArray, List.set_cons_zero, List.set_cons_succ]
      refine H.tk (i := 4) (v := ?v4b) ?h4b hS ?_
      case h4b => (intro w hw; obtain ⟨c0, c1, c2⟩ := HCE.out _ hw; dsimp only at c0 c1 c2; go_simp; first | done | (with_reducible rfl))
      try simp only [Act.put, List.setIfInBounds_toArray, List.set_cons_zero, List.set_cons_succ]
      refine H.tk (i := 5) (v := ?v5b) ?h5b hS ?_
      case h5b => (intro w hw; go_simp; first | done | (with_reducible rfl))
      try simp only [Act.put, List.setIfInBounds_toArray, List.set_cons_zero, List.set_cons_succ]
      refine H.tk (i := 6) (v := ?v6b) ?h6b hS ?_
      case h6b => (intro w hw; go_simp; first | done | (with_reducible rfl))
      try simp only [Act.put, List.setIfInBounds_toArray, List.set_cons_zero, List.set_cons_succ]
      refine H.tk (i := 7) (v := ?v7b) ?h7b hS ?_
      case h7b => (intro w hw; go_simp; first | done | (with_reducible rfl))
      try simp only [Act.put, List.setIfInBounds_toArray, List.set_cons_zero, List.set_cons_succ]
      refine H.tk (i := 8) (v := ?v8b) ?h8b hS ?_
      case h8b => (intro w hw; go_simp; first | done | (with_reducible rfl))
      try simp only [Act.put, List.setIfInBounds_toArray, List.set_cons_zero, List.set_cons_succ]
      refine H.tk (i := 9) (v := ?v9b) ?h9b hS ?_
      case h9b => (intro w hw; obtain ⟨c0, c1, c2⟩ := HCE.out _ hw; dsimp only at c0 c1 c2; go_simp; first | done | (with_reducible rfl))
      try simp only [Act.put, List.setIfInBounds_toArray, List.set_cons_zero, List.set_cons_succ]
      refine wpAnyH_ready (rs := [10]) (by kernel_rfl) (by simp) ?_
      refine AllReadyH.cons rfl (fun K hK => ?_) AllReadyH.nil
      go_simp
      refine (heldP (SB w p pl) SB.keep (PP.out _) hS).mono ?_
      rintro e w10 ⟨rfl, hS10⟩
      refine hK.out _ _ hS10 (fun _ => ?_)
      clear hK K hS
      have hS := hS10
      clear hS10
      try simp only [Act.put, List.setIfInBounds_toArray, List.set_cons_zero, List.set_cons_succ]
      refine H.tk (i := 11) (v := ?v11b) ?h11b hS ?_
      case h11b => (intro w hw; go_simp; first | done | (with_reducible rfl))
      try simp only [Act.put, List.setIfInBounds_toArray, List.set_cons_zero, List.set_cons_succ]
      refine H.tk (i := 12) (v := ?v12b) ?h12b hS ?_
      case h12b => (intro w hw; go_simp; first | done | (with_reducible rfl))
      try simp only [Act.put, List.setIfInBounds_toArray, List.set_cons_zero, List.set_cons_succ]
      refine H.tk (i := 13) (v := ?v13b) ?h13b hS ?_
      case h13b => (intro w hw; go_simp; first | done | (with_reducible rfl))
      try simp only [Act.put, List.setIfInBounds_toArray, List.set_cons_zero, List.set_cons_succ]
      refine H.tk (i := 14) (v := ?v14b) ?h14b hS ?_
      case h14b => (intro w hw; go_simp; first | done | (with_reducible rfl))
      try simp only [Act.put, List.setIfInBounds_toArray, List.set_cons_zero, List.set_cons_succ]
      refine H.tk (i := 15) (v := ?v15b) ?h15b hS ?_
      case h15b => (intro w hw; go_simp; first | done | (with_reducible rfl))
      try simp only [Act.put, List.setIfInBounds_toArray, List.set_cons_zero, List.set_cons_succ]
      refine wpAnyH_done (by kernel_rfl) ?_ _
      have HSB := Lib.hid hS
      clear hS PP
      obtain ⟨c0, c1, c2⟩ := HCE.out _ HSB.out
      dsimp only at c0 c1 c2
      go_wp2
      go_roundw
      case rel => exact ⟨z2, k + 1, rfl, by go_num, hlt, HNz, Lib.hid HSB.out.row, Lib.hid HSB.out.bel⟩
      case measure => simp [intOf]; omega

theorem own : ownKnob Try.prog.godebug = none := by kernel_rfl

set_option maxRecDepth 100000 in
theorem lifted (os : Os) (started : os.Started) (H : Type) (enc : TypeId × Value → H) :
    ReturnsInHanded {} Try.checked os 5 .any (Rows.frameBackSpec.pre6 enc Try.prog Try.f5 Rows.frameBackRow.domain false) (Rows.frameBackSpec.post enc Try.prog Try.f5 false true false false) := by
  refine returnsInHanded_of_change (C := Try.checked) own started (by kernel_rfl) Try.func5
    (ChangeSpec.witness6 (enc := enc) (C := Try.checked) false ⟨#[], #[.string ByteArray.empty, .string ByteArray.empty], []⟩ 8 (by kernel_rfl) (by kernel_rfl) (by kernel_rfl) (by kernel_rfl)) ?_
  intro W base args ds gs before hval0 hW hcnd _
  have hval : ∀ (j : Nat) t v, Try.f5.params[j]? = some t → args[j]? = some v → Value.okWide Try.prog W .any base t v := hval0
  have hW' := hW
  have hlt := fun x hx => hW'.lt x hx
  obtain ⟨p, q, hA0, hV, rfl, hfz, hnd⟩ := hW
  have hA : DataW.TrodAll enc Try.prog W 0 (fun _ => true) true Try.f5.params.toList args.toList ds p := hA0
  rw [Try.params5] at hA hval
  obtain ⟨v0, vs0, d0, ds0, p0, q0, hargs, rfl, rfl, h0, r0⟩ := trodAll_cons hA
  obtain ⟨v1, vs1, d1, ds1, p1, q1, rfl, rfl, rfl, h1, r1⟩ := trodAll_cons r0
  obtain ⟨rfl, rfl, rfl⟩ := trodAll_nil r1
  obtain rfl : args = #[v0, v1] := by cases args; simp_all
  obtain ⟨rfl, rfl⟩ := trodVars_none hV
  have k0 := h0
  obtain ⟨s, rfl, rfl, rfl, ws⟩ := open_string Try.underlying9 (hval 0 9 v0 rfl rfl) k0
  have k1 := h1
  obtain ⟨t, rfl, rfl, rfl, wt⟩ := open_string Try.underlying9 (hval 1 9 v1 rfl rfl) k1
  clear hA0 hval0
  simp only [List.append_nil] at hW' hlt
  refine (walk s t W ws wt).mono fun e W' ⟨he, hg⟩ => ?_
  subst he
  exact ⟨_, rfl, _, _, _, [], _, [], hW', trodAll_mk1 (shut_bool Try.underlying4 _), (trodAll_cons_mk (again (by kernel_rfl) (of_decide_eq_true (by kernel_rfl)) h0 hg fun x hx => hlt x (by first | exact absurd hx (by simp) | simp [hx])) (trodAll_cons_mk (again (by kernel_rfl) (of_decide_eq_true (by kernel_rfl)) h1 hg fun x hx => hlt x (by first | exact absurd hx (by simp) | simp [hx])) trodAll_mk0)), rfl, hg.frame _, fun h => by cases h⟩

theorem over : Rows.frameBackRow.holds Try.pinned (OpenSpec.ofChange Rows.frameBackSpec) :=
  OpenClaim.holds_of_wide 5 Try.f5 rfl rfl rfl rfl rfl rfl rfl ⟨rfl, rfl, rfl, rfl, rfl⟩ rfl rfl rfl rfl rfl (by kernel_rfl) Try.func5 (by kernel_rfl)
    (of_decide_eq_true (by kernel_rfl)) (by unfold Func.isWrapper; first | (rw [if_pos (by decide +kernel)]; kernel_rfl) | (rw [if_neg (by decide +kernel)]; exact ⟨rfl, rfl⟩))
    (fun os started H enc _ => lifted os started H enc)

theorem proved : Rows.FrameBackSaid :=
  over
#print axioms proved
end Go.Proofs.Ytoeghlbljmdchaa.frameBack
