/-
  The document's own Parse. Condition: at most 2^20 bytes.
-/
import Derived.Test.YtfaobpmbiocafaaRq
import Derived.Test.YtfaobpmbiocafaaPa
namespace Go.Proofs.Ytfaobpmbiocafaa.Rs
open Go.ChangeShapes Go.WideShapes Go.ChangeAt Go.RowKit
open Go.Proofs.Ytfaobpmbiocafaa.Ms
open Go.Proofs.Ytfaobpmbiocafaa.Box
open Go.Proofs.Ytfaobpmbiocafaa.Rp
open Go.Proofs.Ytfaobpmbiocafaa.Ps
open Go.Proofs.Ytfaobpmbiocafaa.Ck
open Go.Proofs.Ytfaobpmbiocafaa.Ap
open Go.Proofs.Ytfaobpmbiocafaa.Hx
open Go.Proofs.Ytfaobpmbiocafaa.Hs
open Go.Proofs.Ytfaobpmbiocafaa.Hd (idx)
open Go.Proofs.Ytfaobpmbiocafaa.Rq
open Go.Proofs.Ytfaobpmbiocafaa.Rr
open Go.Proofs.Ytfaobpmbiocafaa.Pa (Ans.of)
open Go.Proofs.Ytfaobpmbiocafaa.All
open Go.Proofs.Ytfaobpmbiocafaa.Bk (E Bk shE wpList_loadK wpList_storeK run_loadK)
open Go.Proofs.Ytfaobpmbiocafaa.Or (st_yes)
set_option linter.unusedVariables false
set_option maxRecDepth 100000

theorem hc_ok {b : ByteArray} (h : (hcAt b).2 = 0) : (hdAt b).2 = 0 ∧ (cnAt b).2 = 0 := by
  unfold hcAt at h
  by_cases h1 : (hdAt b).2 = 0
  · rw [if_neg (by simpa using h1)] at h; exact ⟨h1, h⟩
  · rw [if_pos h1] at h; exact absurd h h1
theorem out_no {b : ByteArray} (h : (hcAt b).2 ≠ 0) : out b = ([], (hcAt b).1, (hcAt b).2) := by
  by_cases h1 : (hdAt b).2 = 0
  · have e : hcAt b = cnAt b := by unfold hcAt; rw [if_neg (by simpa using h1)]
    rw [e] at h ⊢
    unfold out
    rw [if_neg (by simpa using h1), if_pos h]
  · have e : hcAt b = hdAt b := by unfold hcAt; rw [if_pos h1]
    rw [e]
    unfold out
    rw [if_pos h1]
/-- What stays from round to round. -/
structure Q (w wr : World) (v : Value) (l : List M) : Prop where
  own : Lst w.heap.size wr v l
  bel : Below w.heap.size w wr
theorem Q.call {w wr w' : World} {v : Value} {l : List M} (g : Q w wr v l) (hb : Below wr.heap.size wr w') : Q w w' v l := ⟨g.own.below hb, g.bel.trans (hb.mono g.bel.size)⟩
/-- What stays within a statement, an entry beside. -/
structure Qe (w W : World) (v : Value) (l : List M) (g : Nat) (x : E) : Prop where
  q : Q w W v l
  en : Bk 48 W g x.cells
theorem Qe.call {w W w' : World} {v : Value} {l : List M} {g : Nat} {x : E} (h : Qe w W v l g x) (hb : Below W.heap.size W w') : Qe w w' v l g x := ⟨h.q.call hb, h.en.below hb⟩

theorem Lst.row_off {B : Nat} {w : World} {v : Value} {l : List M} {g2 : Nat} (h : Lst B w v l) (hob : ∀ k, v.ownBlock = some k → k < g2) (cs : Array Value) : Lst B (w.setRow g2 cs) v l :=
  World.ownsRow.kept h (row := some g2) ⟨rfl, rfl, rfl, by simp, fun k _ hk => setRow_other w g2 k cs (fun e => hk (by rw [e]))⟩ (Or.inr (fun e => by have := hob g2 e; omega))
theorem Qe.row {w W : World} {v : Value} {l : List M} {g g2 : Nat} {x : E} (h : Qe w W v l g x) (hob : ∀ k, v.ownBlock = some k → k < g2) (hg : g < g2) (hB : w.heap.size ≤ g2) (cs : Array Value) : Qe w (W.setRow g2 cs) v l g x :=
  ⟨⟨Lst.row_off h.q.own hob cs, below_setRow h.q.bel hB cs⟩, h.en.row (by omega) cs⟩

set_option maxHeartbeats 12800000 in
theorem rparse_any (b : ByteArray) (w : World) (hs : b.size ≤ 1048576) : Calls Try.prog 9 #[.string b] w (Ans (out b) w) := by
  have P1 := Lib.hid (fun W => head_rq b W hs)
  go_enter Try.func9, Try.ntmps9
  by_cases h1 : (hcAt b).2 = 0
  rotate_left
  · have HZ := Lib.hid (out_no h1)
    have e1 : ((hcAt b).2 == 0) = false := by simpa using h1
    have e2 : ((hcAt b).2 != 0) = true := by rw [bne, e1]; rfl
    clear h1
    generalize (hcAt b).2 = x at *
    generalize (hcAt b).1 = y at *
    go_wp2_with fail
    refine (P1.out _).mono ?_
    rintro e w1 ⟨rfl, rfl⟩
    go_wp2
    go_ret3
    exact Ans.no HZ.out (Below.refl _ _)
  obtain ⟨h2, h3⟩ := hc_ok h1
  obtain ⟨h4, _, _, _⟩ := hd_ok h2
  obtain ⟨n, n1, n2, hn⟩ := cn_ok h3 h4
  have HO := Lib.hid (show out b = if atN b = b.size then ([], (b.size : Int), 8) else ents (hdM b) b (atN b) (cntN b) (decide (atN b + 20 = b.size)) by unfold out; rw [if_neg (by simpa using h2), if_neg (by simpa using h3)])
  rw [h1] at P1
  clear h1 h2 h3
  generalize (hcAt b).1 = y at *
  go_wp2_with fail
  refine (P1.out _).mono ?_
  rintro e w1 ⟨rfl, rfl⟩
  clear P1
  have k1 : 1 < b.size := by omega
  have k0 : 0 < b.size := by omega
  have HN := Lib.hid hn
  have hz : b.size ≤ 504 := by omega
  have hz2 : 24 ≤ b.size := by omega
  have i1 := idx b 1 1 rfl k1
  have sl := Ent.sl_m b 4 24 4 24 rfl rfl (by omega) hz2
  have PI := Lib.hid (fun W => (Au.ris_any (b.extract 4 24) W).mono fun _ _ ⟨p1, p2⟩ => And.intro p1 p2.symm)
  have PG := Lib.hid (fun W => (Au.rget_any (b.extract 4 24) W).mono fun _ _ ⟨p1, p2⟩ => And.intro p1 p2.symm)
  have HS := Lib.hid (show says b = (bt b 1 == 2 && Au.isA (b.extract 4 24)) from rfl)
  have HD := Lib.hid (show hdM b = hdOf (bt b 0) (bt b 1) (if says b then Au.getA (b.extract 4 24) else ByteArray.empty) from rfl)
  have HT := Lib.hid (show atN b = if says b then 24 else 4 from rfl)
  clear h4 hn
  generalize says b = sb at *
  generalize Au.isA (b.extract 4 24) = x1 at *
  generalize Au.getA (b.extract 4 24) = au at *
  go_upto_region 5 with fail
  by_cases b1 : bt b 1 = 2
  case' neg =>
    have e1 : (bt b 1 == 2) = false := by simpa using b1
    have hsb := HS.out
    rw [e1] at hsb
    have HD2 := Lib.hid (show hdM b = hdOf (bt b 0) (bt b 1) ⟨#[]⟩ by rw [HD.out, hsb]; rfl)
    have HT2 := Lib.hid (show atN b = 4 by rw [HT.out, hsb]; rfl)
    clear HS HD HT b1 hsb sb
    go_upto_region 12 with fail
    clear e1
    clear PI PG i1 sl
    have hq : 4 ≤ b.size := by omega
    have hne : ¬ atN b = b.size := by rw [HT2.out]; omega
    have HO := Lib.hid (show out b = ents (hdOf (bt b 0) (bt b 1) ⟨#[]⟩) b 4 (cntN b) (decide (4 + 20 = b.size)) by rw [HO.out, if_neg hne, HT2.out, HD2.out])
    have HC : Hid (b.size = 4 + 20 * cntN b ∧ cntN b ≤ 100) := Lib.hid (by unfold cntN; rw [HT2.out]; have := HN.out; omega)
    have hal : ((b.size : Int) - 4 == 20) = decide (4 + 20 = b.size) := by rw [Bool.eq_iff_iff, beq_iff_eq, decide_eq_true_iff]; omega
    have HF := Lib.hid (fun k => rts_flat (hdOf (bt b 0) (bt b 1) ⟨#[]⟩) b 4 k rfl rfl)
    have PR := Lib.hid (fun (x : E) (al : Bool) W (hx : E4 x) => route_rq x (bt b 0) (bt b 1) ⟨#[]⟩ al W hx)
    have PE := Lib.hid (fun (s : ByteArray) (hx : s.size = 20) W => Ent.rget_yes s W hx)
    clear HD2 HT2 hne
    generalize decide (4 + 20 = b.size) = al at *
    generalize hdOf (bt b 0) (bt b 1) ⟨#[]⟩ = h at *
    generalize cntN b = cn at *
    go_loopw [8, 9] (fun v i wr => ∃ k : Nat, k ≤ cn ∧ i = .int .i64 ((4 + 20 * k : Nat) : Int) ∧ Hid (Q w wr v (rts h b 4 k)) ∧ Hid (∀ i, i < k → ckE h (entP b (4 + 20 * i)) al = 0)) (fun _ i _ => b.size - (intOf i).toNat)
    case atStart => exact ⟨0, Nat.zero_le _, rfl, Lib.hid ⟨Lst.nil _ _, Below.refl _ _⟩, Lib.hid (fun i hi => absurd hi (by omega))⟩
    case round =>
      obtain ⟨k, hk, rfl, HL, HK⟩ := hrel
      by_cases hlt : k < cn
      · have HS := Lib.hid (fun hz => ents_some (h := h) (b := b) (p := 4) (n := cn) (alone := al) hlt HK.out hz)
        have HR := Lib.hid (rts_succ h b 4 k)
        have HJ := Lib.hid (fun (hc : ckE h (entP b (4 + 20 * k)) al = 0) => show ∀ i, i < k + 1 → ckE h (entP b (4 + 20 * i)) al = 0 from fun i hi => by
          by_cases hik : i < k
          · exact HK.out i hik
          · obtain rfl : i = k := by omega
            exact hc)
        have HP : Hid (((4 + 20 * (k + 1) : Nat) : Int) = ((4 + 20 * k : Nat) : Int) + 20) := Lib.hid (by omega)
        have hp : 4 + 20 * k + 20 ≤ b.size := by have := HC.out; omega
        have HM : Hid (b.size - ((4 + 20 * k : Nat) : Int).toNat > b.size - (((4 + 20 * k : Nat) : Int) + 20).toNat) := Lib.hid (by omega)
        have HL1 : Hid ((rts h b 4 k).length ≤ 100000) := Lib.hid (by rw [rts_len]; have := HC.out; omega)
        have HX0 : Hid (rts h b 4 k = rts h b 4 k) := Lib.hid rfl
        clear hk HK HX0
        generalize rts h b 4 k = lk at *
        generalize hp0 : 4 + 20 * k = p at *
        clear hp0
        have sl := Ent.sl_m b (p : Int) ((p : Int) + 20) p (p + 20) rfl (by omega) (by omega) hp
        have hz9 : (b.extract p (p + 20)).size = 20 := by simp; omega
        have he : Hid (E4 (entP b p)) := Lib.hid (ent4 _ hz9)
        have PE1 : Hid (∀ W, Calls Try.prog 23 #[.string (b.extract p (p + 20))] W fun e w' => e = .returned (.tuple #[.agg (entP b p).cells, .bool true]) ∧ Below W.heap.size W w') := Lib.hid (fun W => PE.out _ hz9 W)
        clear hz9 PE
        generalize entP b p = x at *
        go_wp2_with fail
        refine (PE1.out _).mono ?_
        rintro e w1 ⟨rfl, hb⟩
        have HL := Lib.hid (HL.out.call hb)
        clear hb PE1 sl
        go_upto_region 15 with (first | (refine wpList_storeK (b := w1.heap.size) shE rfl _ _ rfl rfl rfl (Bk.Bk.new 48 w1 E.zero.cells) rfl rfl (E.one x) ?_))
        have H0 := Lib.hid (show Qe w ((w1.alloc (.cells x.cells 48)).drew) u8 lk w1.heap.size x from Qe.call ⟨HL.out.call ((Below.refl w1.heap.size w1).alloc (Nat.le_refl _) _), Bk.Bk.new 48 w1 x.cells⟩ (Below.refl _ _).drew)
        change Code.wp _ _ _ _ ((w1.alloc (.cells E.zero.cells 48)).setRow w1.heap.size x.cells)
        rw [World.setRow_alloc_new]
        clear HL
        generalize w1.alloc (.cells x.cells 48) = W2 at *
        generalize w1.heap.size = g at *
        refine wp_region_held_drew (S := fun W => Qe w W u8 lk g x) (by kernel_rfl) H0.out (fun hS => ?_)
        clear H0
        generalize W2.drew = w0 at *
        have j0 := idx b 0 0 rfl (by omega)
        have j1 := idx b 1 1 rfl (by omega)
        have v0 := conv8 (bt b 0) (bt_nn _ _) (bt_lt _ _)
        have v1 := conv8 (bt b 1) (bt_nn _ _) (bt_lt _ _)
        have hw1 : IntKind.i64.wrap ((b.size : Int) - 4) = (b.size : Int) - 4 := IntWalk.i64_in _ (by omega)
        have hw2 : wrap64 ((b.size : Int) - 4) = (b.size : Int) - 4 := IntWalk.wrap64_in _ (by omega)
        refine H.take (i := 0) (v := .agg x.cells) (by simp only [List.getElem?_toArray, List.getElem?_cons_zero]; rfl) (by kernel_rfl) rfl (by kernel_rfl) (by kernel_rfl) (by kernel_rfl) (fun _ _ _ h => h) ?h0 hS ?_
        case h0 => exact fun w hw => run_loadK (x := .tmp 10) shE rfl rfl hw.en rfl
        try simp only [Act.put, List.setIfInBounds_toArray, List.set_cons_zero, List.set_cons_succ]
        refine H.take (i := 1) (v := .string b) (by simp only [List.getElem?_toArray, List.getElem?_cons_succ, List.getElem?_cons_zero]; rfl) (by kernel_rfl) rfl (by kernel_rfl) (by kernel_rfl) (by kernel_rfl) (fun _ _ _ h => h) ?h1 hS ?_
        case h1 => exact fun w _ => rfl
        try simp only [Act.put, List.setIfInBounds_toArray, List.set_cons_zero, List.set_cons_succ]
        refine H.take (i := 2) (v := .int .u8 (bt b 0)) (by simp only [List.getElem?_toArray, List.getElem?_cons_succ, List.getElem?_cons_zero]; rfl) (by kernel_rfl) rfl (by kernel_rfl) (by kernel_rfl) (by kernel_rfl) (fun _ _ _ h => h) ?h2 hS ?_
        case h2 => (intro w hw; go_simp; first | done | (with_reducible rfl))
        try simp only [Act.put, List.setIfInBounds_toArray, List.set_cons_zero, List.set_cons_succ]
        refine H.take (i := 3) (v := .int .i64 (bt b 0)) (by simp only [List.getElem?_toArray, List.getElem?_cons_succ, List.getElem?_cons_zero]; rfl) (by kernel_rfl) rfl (by kernel_rfl) (by kernel_rfl) (by kernel_rfl) (fun _ _ _ h => h) ?h3 hS ?_
        case h3 => (intro w hw; go_simp; first | done | (with_reducible rfl))
        try simp only [Act.put, List.setIfInBounds_toArray, List.set_cons_zero, List.set_cons_succ]
        refine H.take (i := 4) (v := .string b) (by simp only [List.getElem?_toArray, List.getElem?_cons_succ, List.getElem?_cons_zero]; rfl) (by kernel_rfl) rfl (by kernel_rfl) (by kernel_rfl) (by kernel_rfl) (fun _ _ _ h => h) ?h4 hS ?_
        case h4 => exact fun w _ => rfl
        try simp only [Act.put, List.setIfInBounds_toArray, List.set_cons_zero, List.set_cons_succ]
        refine H.take (i := 5) (v := .int .u8 (bt b 1)) (by simp only [List.getElem?_toArray, List.getElem?_cons_succ, List.getElem?_cons_zero]; rfl) (by kernel_rfl) rfl (by kernel_rfl) (by kernel_rfl) (by kernel_rfl) (fun _ _ _ h => h) ?h5 hS ?_
        case h5 => (intro w hw; go_simp; first | done | (with_reducible rfl))
        try simp only [Act.put, List.setIfInBounds_toArray, List.set_cons_zero, List.set_cons_succ]
        refine H.take (i := 6) (v := .int .i64 (bt b 1)) (by simp only [List.getElem?_toArray, List.getElem?_cons_succ, List.getElem?_cons_zero]; rfl) (by kernel_rfl) rfl (by kernel_rfl) (by kernel_rfl) (by kernel_rfl) (fun _ _ _ h => h) ?h6 hS ?_
        case h6 => (intro w hw; go_simp; first | done | (with_reducible rfl))
        try simp only [Act.put, List.setIfInBounds_toArray, List.set_cons_zero, List.set_cons_succ]
        refine H.take (i := 7) (v := .string ⟨#[]⟩) (by simp only [List.getElem?_toArray, List.getElem?_cons_succ, List.getElem?_cons_zero]; rfl) (by kernel_rfl) rfl (by kernel_rfl) (by kernel_rfl) (by kernel_rfl) (fun _ _ _ h => h) ?h7 hS ?_
        case h7 => exact fun w _ => rfl
        try simp only [Act.put, List.setIfInBounds_toArray, List.set_cons_zero, List.set_cons_succ]
        refine H.take (i := 8) (v := .string b) (by simp only [List.getElem?_toArray, List.getElem?_cons_succ, List.getElem?_cons_zero]; rfl) (by kernel_rfl) rfl (by kernel_rfl) (by kernel_rfl) (by kernel_rfl) (fun _ _ _ h => h) ?h8 hS ?_
        case h8 => exact fun w _ => rfl
        try simp only [Act.put, List.setIfInBounds_toArray, List.set_cons_zero, List.set_cons_succ]
        refine H.take (i := 9) (v := .int .i64 (b.size : Int)) (by simp only [List.getElem?_toArray, List.getElem?_cons_succ, List.getElem?_cons_zero]; rfl) (by kernel_rfl) rfl (by kernel_rfl) (by kernel_rfl) (by kernel_rfl) (fun _ _ _ h => h) ?h9 hS ?_
        case h9 => (intro w hw; go_simp; first | done | (with_reducible rfl))
        try simp only [Act.put, List.setIfInBounds_toArray, List.set_cons_zero, List.set_cons_succ]
        refine H.take (i := 10) (v := .int .i64 4) (by simp only [List.getElem?_toArray, List.getElem?_cons_succ, List.getElem?_cons_zero]; rfl) (by kernel_rfl) rfl (by kernel_rfl) (by kernel_rfl) (by kernel_rfl) (fun _ _ _ h => h) ?h10 hS ?_
        case h10 => exact fun w _ => rfl
        try simp only [Act.put, List.setIfInBounds_toArray, List.set_cons_zero, List.set_cons_succ]
        refine H.take (i := 11) (v := .int .i64 ((b.size : Int) - 4)) (by simp only [List.getElem?_toArray, List.getElem?_cons_succ, List.getElem?_cons_zero]; rfl) (by kernel_rfl) rfl (by kernel_rfl) (by kernel_rfl) (by kernel_rfl) (fun _ _ _ h => h) ?h11 hS ?_
        case h11 => (intro w hw; go_simp; first | done | (with_reducible rfl))
        try simp only [Act.put, List.setIfInBounds_toArray, List.set_cons_zero, List.set_cons_succ]
        refine H.take (i := 12) (v := .bool al) (by simp only [List.getElem?_toArray, List.getElem?_cons_succ, List.getElem?_cons_zero]; rfl) (by kernel_rfl) rfl (by kernel_rfl) (by kernel_rfl) (by kernel_rfl) (fun _ _ _ h => h) ?h12 hS ?_
        case h12 => (intro w hw; go_simp; first | done | (with_reducible rfl))
        try simp only [Act.put, List.setIfInBounds_toArray, List.set_cons_zero, List.set_cons_succ]
        clear j0 j1 v0 v1 hw1 hw2
        refine wpAnyH_ready (rs := [13, 17]) (by kernel_rfl) (by simp) ?_
        refine AllReadyH.cons rfl (fun K hK => ?oA1) (AllReadyH.cons rfl (fun K hK => ?oB1) AllReadyH.nil)
        case' oA1 =>
          go_simp
          refine (PR.out x al w0 he.out).mono ?_
          rintro e w13 ⟨m, rfl, hm, hb⟩
          refine hK.out _ _ (hS.call hb) (fun hS13 => ?_)
          clear hK K hS
          have hS := hS13
          clear hS13 hb
          try simp only [Act.put, List.setIfInBounds_toArray, List.set_cons_zero, List.set_cons_succ]
          refine H.take (i := 14) (v := .tuple #[.agg m.cells, .int .i64 (ckE h x al)]) (by simp only [List.getElem?_toArray, List.getElem?_cons_succ, List.getElem?_cons_zero]; rfl) (by kernel_rfl) rfl (by kernel_rfl) (by kernel_rfl) (by kernel_rfl) (fun _ _ _ h => h) ?h14 hS ?_
          case h14 => exact fun w _ => rfl
          try simp only [Act.put, List.setIfInBounds_toArray, List.set_cons_zero, List.set_cons_succ]
          refine H.take (i := 15) (v := .agg m.cells) (by simp only [List.getElem?_toArray, List.getElem?_cons_succ, List.getElem?_cons_zero]; rfl) (by kernel_rfl) rfl (by kernel_rfl) (by kernel_rfl) (by kernel_rfl) (fun _ _ _ h => h) ?h15 hS ?_
          case h15 => (intro w hw; go_simp; first | done | (with_reducible rfl))
          try simp only [Act.put, List.setIfInBounds_toArray, List.set_cons_zero, List.set_cons_succ]
          refine H.take (i := 16) (v := .int .i64 (ckE h x al)) (by simp only [List.getElem?_toArray, List.getElem?_cons_succ, List.getElem?_cons_zero]; rfl) (by kernel_rfl) rfl (by kernel_rfl) (by kernel_rfl) (by kernel_rfl) (fun _ _ _ h => h) ?h16 hS ?_
          case h16 => (intro w hw; go_simp; first | done | (with_reducible rfl))
          try simp only [Act.put, List.setIfInBounds_toArray, List.set_cons_zero, List.set_cons_succ]
          refine wpAnyH_ready (rs := [17]) (by kernel_rfl) (by simp) ?_
          refine AllReadyH.cons rfl (fun K hK => ?_) AllReadyH.nil
          go_simp
          refine hK.out _ _ (hS.call ((Below.refl w13.heap.size w13).alloc (Nat.le_refl _) (.cells M.zero.cells 34))) (fun hS2 => ?_)
          clear hK K
          try simp only [Act.put, List.setIfInBounds_toArray, List.set_cons_zero, List.set_cons_succ]
          have HB := Lib.hid (show Bx ((w13.alloc (.cells M.zero.cells 34)).setRow w13.heap.size m.cells) w13.heap.size m from (Bx.new w13 M.zero).put)
          have hS4 : Qe w ((w13.alloc (.cells M.zero.cells 34)).setRow w13.heap.size m.cells) u8 lk g x := by rw [World.setRow_alloc_new]; exact hS.call ((Below.refl w13.heap.size w13).alloc (Nat.le_refl _) (.cells m.cells 34))
          refine Hx.H.storeRow (i := 18) (by simp only [List.getElem?_toArray, List.getElem?_cons_succ, List.getElem?_cons_zero]; rfl) (by kernel_rfl) rfl rfl (by kernel_rfl) w13.heap.size m.cells rfl rfl 34 M.zero.cells (heap_alloc_new _ _) infoM rfl (oneM _) hS4 ?_
          clear hS hS2
          have hS := hS4
          clear hS4
          change wpAnyH _ _ _ _ _ _ _ _ ((w13.alloc (.cells M.zero.cells 34)).setRow w13.heap.size m.cells)
          generalize (w13.alloc (.cells M.zero.cells 34)).setRow w13.heap.size m.cells = W9 at *
          generalize w13.heap.size = g2 at *
          refine H.take (i := 19) (v := .int .i64 (ckE h x al)) (by simp only [List.getElem?_toArray, List.getElem?_cons_succ, List.getElem?_cons_zero]; rfl) (by kernel_rfl) rfl (by kernel_rfl) (by kernel_rfl) (by kernel_rfl) (fun _ _ _ h => h) ?h19 hS ?_
          case h19 => exact fun w _ => rfl
          try simp only [Act.put, List.setIfInBounds_toArray, List.set_cons_zero, List.set_cons_succ]
          refine wpAnyH_done (by kernel_rfl) ?_ _
        case' oB1 =>
          have HOB := Lib.hid (show (∀ k, u8.ownBlock = some k → k < w0.heap.size) ∧ g < w0.heap.size ∧ w.heap.size ≤ w0.heap.size from ⟨fun k hk => (World.ownsRow.lt hS.q.own k hk).2, hS.en.lt, hS.q.bel.size⟩)
          go_simp
          refine hK.out _ _ (hS.call ((Below.refl w0.heap.size w0).alloc (Nat.le_refl _) (.cells M.zero.cells 34))) (fun hS2 => ?_)
          clear hK K
          try simp only [Act.put, List.setIfInBounds_toArray, List.set_cons_zero, List.set_cons_succ]
          have HB0 := Lib.hid (Bx.new w0 M.zero)
          change wpAnyH _ _ _ _ _ _ _ _ (w0.alloc (.cells M.zero.cells 34))
          have hS3 : Qe w (w0.alloc (.cells M.zero.cells 34)) u8 lk g x := hS2
          clear hS hS2
          have hS := hS3
          clear hS3
          generalize w0.alloc (.cells M.zero.cells 34) = w1 at *
          generalize w0.heap.size = g2 at *
          refine wpAnyH_ready (rs := [13]) (by kernel_rfl) (by simp) ?_
          refine AllReadyH.cons rfl (fun K hK => ?_) AllReadyH.nil
          go_simp
          refine (PR.out x al w1 he.out).mono ?_
          rintro e w13 ⟨m, rfl, hm, hb⟩
          refine hK.out _ _ (hS.call hb) (fun hS13 => ?_)
          clear hK K hS
          have hS := hS13
          have HB1 := Lib.hid (HB0.out.below hb)
          clear hS13 HB0
          try simp only [Act.put, List.setIfInBounds_toArray, List.set_cons_zero, List.set_cons_succ]
          refine H.take (i := 14) (v := .tuple #[.agg m.cells, .int .i64 (ckE h x al)]) (by simp only [List.getElem?_toArray, List.getElem?_cons_succ, List.getElem?_cons_zero]; rfl) (by kernel_rfl) rfl (by kernel_rfl) (by kernel_rfl) (by kernel_rfl) (fun _ _ _ h => h) ?h14 hS ?_
          case h14 => exact fun w _ => rfl
          try simp only [Act.put, List.setIfInBounds_toArray, List.set_cons_zero, List.set_cons_succ]
          refine H.take (i := 15) (v := .agg m.cells) (by simp only [List.getElem?_toArray, List.getElem?_cons_succ, List.getElem?_cons_zero]; rfl) (by kernel_rfl) rfl (by kernel_rfl) (by kernel_rfl) (by kernel_rfl) (fun _ _ _ h => h) ?h15 hS ?_
          case h15 => (intro w hw; go_simp; first | done | (with_reducible rfl))
          try simp only [Act.put, List.setIfInBounds_toArray, List.set_cons_zero, List.set_cons_succ]
          refine H.take (i := 16) (v := .int .i64 (ckE h x al)) (by simp only [List.getElem?_toArray, List.getElem?_cons_succ, List.getElem?_cons_zero]; rfl) (by kernel_rfl) rfl (by kernel_rfl) (by kernel_rfl) (by kernel_rfl) (fun _ _ _ h => h) ?h16 hS ?_
          case h16 => (intro w hw; go_simp; first | done | (with_reducible rfl))
          try simp only [Act.put, List.setIfInBounds_toArray, List.set_cons_zero, List.set_cons_succ]
          have hS4 : Qe w (w13.setRow g2 m.cells) u8 lk g x := hS.row HOB.out.1 HOB.out.2.1 HOB.out.2.2 _
          have HB := Lib.hid (HB1.out.put (m' := m))
          refine Hx.H.storeRow (i := 18) (by simp only [List.getElem?_toArray, List.getElem?_cons_succ, List.getElem?_cons_zero]; rfl) (by kernel_rfl) rfl rfl (by kernel_rfl) g2 m.cells rfl rfl 34 M.zero.cells HB1.out infoM rfl (oneM _) hS4 ?_
          clear hS hb HB1 HOB
          have hS := hS4
          clear hS4
          generalize w13.setRow g2 m.cells = W9 at *
          refine H.take (i := 19) (v := .int .i64 (ckE h x al)) (by simp only [List.getElem?_toArray, List.getElem?_cons_succ, List.getElem?_cons_zero]; rfl) (by kernel_rfl) rfl (by kernel_rfl) (by kernel_rfl) (by kernel_rfl) (fun _ _ _ h => h) ?h19 hS ?_
          case h19 => exact fun w _ => rfl
          try simp only [Act.put, List.setIfInBounds_toArray, List.set_cons_zero, List.set_cons_succ]
          refine wpAnyH_done (by kernel_rfl) ?_ _
        all_goals
          have HQ := Lib.hid hS
          clear hS
          have HMM := Lib.hid hm
          clear hm
          rcases (show ckE h x al ≠ 0 ∨ ckE h x al = 0 by omega) with hc | hc
          · have HCC := Lib.hid (HS.out hc)
            have e1 : (ckE h x al == 0) = false := by simpa using hc
            have e2 : (ckE h x al != 0) = true := by rw [bne, e1]; rfl
            clear hc HS
            generalize ckE h x al = c at *
            go_wp2
            go_ret3
            exact Ans.no (HO.out.trans HCC.out) HQ.out.q.bel
          have HK1 := Lib.hid (HJ.out hc)
          have hmr := HMM.out hc
          subst hmr
          rw [hc]
          clear hc HS HJ HMM
          go_upto_region 18 with fail
          have HL2 := Lib.hid (HQ.out.q.call ((Below.refl W9.heap.size W9).alloc (Nat.le_refl _) (.cells (routeM h x).cells 34)))
          have HCn := Lib.hid (cells_new (routeM h x) W9)
          go_wp2_with (first | (refine wpList_loadM (b := g2) (m := routeM h x) rfl _ rfl rfl HB.out ?_) | (refine bs_one rfl _ rfl (m := routeM h x) rfl ?_) | (at_builtin; refine app_one rfl _ _ rfl w.heap.size _ _ (routeM h x) _ _ rfl HL2.out.own rfl HCn.out HL1.out ?cAp1 ?_))
          case cAp1 => exact HL2.out.bel.size
          intro v' w5 hown hb hsz
          have HL := Lib.hid (show Q w w5 v' (rts h b 4 (k + 1)) from ⟨by rw [HR.out]; exact hown, HL2.out.bel.trans hb⟩)
          clear hown hb hsz HCn HL2 HR HQ HB
          go_wp2
          go_roundw
          case rel => exact ⟨k + 1, hlt, by rw [HP.out], HL, HK1⟩
          case measure => have := HM.out; simp only [intOf]; omega
      · obtain rfl : k = cn := by omega
        have HE := Lib.hid (show out b = (rts h b 4 k, 0, 0) from HO.out.trans (ents_none HK.out))
        obtain ⟨a, c, rfl⟩ := HL.out.own.slice
        have HW := Lib.hid (HL.out.own.row (HF.out k))
        have hge : ¬ ((4 + 20 * k : Nat) : Int) < (b.size : Int) := by have := HC.out; omega
        have hge2 : decide (((4 + 20 * k : Nat) : Int) < (b.size : Int)) = false := decide_eq_false hge
        clear hlt hk
        generalize hp0 : 4 + 20 * k = p at *
        clear hp0
        go_wp2
        go_ret3
        exact Ans.of HE.out HW.out HL.out.bel
  case' pos =>
    have e1 : (bt b 1 == 2) = true := by simpa using b1
    rw [e1] at HS
    clear b1
    cases x1
    case' false =>
      have hsb := HS.out
      have HD2 := Lib.hid (show hdM b = hdOf (bt b 0) (bt b 1) ⟨#[]⟩ by rw [HD.out, hsb]; rfl)
      have HT2 := Lib.hid (show atN b = 4 by rw [HT.out, hsb]; rfl)
      clear HS HD HT hsb sb
      go_wp2_with fail
      refine (PI.out _).mono ?_
      rintro e w1 ⟨rfl, rfl⟩
      go_upto_region 12 with fail
      clear e1
      clear PI PG i1 sl
      have hq : 4 ≤ b.size := by omega
      have hne : ¬ atN b = b.size := by rw [HT2.out]; omega
      have HO := Lib.hid (show out b = ents (hdOf (bt b 0) (bt b 1) ⟨#[]⟩) b 4 (cntN b) (decide (4 + 20 = b.size)) by rw [HO.out, if_neg hne, HT2.out, HD2.out])
      have HC : Hid (b.size = 4 + 20 * cntN b ∧ cntN b ≤ 100) := Lib.hid (by unfold cntN; rw [HT2.out]; have := HN.out; omega)
      have hal : ((b.size : Int) - 4 == 20) = decide (4 + 20 = b.size) := by rw [Bool.eq_iff_iff, beq_iff_eq, decide_eq_true_iff]; omega
      have HF := Lib.hid (fun k => rts_flat (hdOf (bt b 0) (bt b 1) ⟨#[]⟩) b 4 k rfl rfl)
      have PR := Lib.hid (fun (x : E) (al : Bool) W (hx : E4 x) => route_rq x (bt b 0) (bt b 1) ⟨#[]⟩ al W hx)
      have PE := Lib.hid (fun (s : ByteArray) (hx : s.size = 20) W => Ent.rget_yes s W hx)
      clear HD2 HT2 hne
      generalize decide (4 + 20 = b.size) = al at *
      generalize hdOf (bt b 0) (bt b 1) ⟨#[]⟩ = h at *
      generalize cntN b = cn at *
      go_loopw [8, 9] (fun v i wr => ∃ k : Nat, k ≤ cn ∧ i = .int .i64 ((4 + 20 * k : Nat) : Int) ∧ Hid (Q w wr v (rts h b 4 k)) ∧ Hid (∀ i, i < k → ckE h (entP b (4 + 20 * i)) al = 0)) (fun _ i _ => b.size - (intOf i).toNat)
      case atStart => exact ⟨0, Nat.zero_le _, rfl, Lib.hid ⟨Lst.nil _ _, Below.refl _ _⟩, Lib.hid (fun i hi => absurd hi (by omega))⟩
      case round =>
        obtain ⟨k, hk, rfl, HL, HK⟩ := hrel
        by_cases hlt : k < cn
        · have HS := Lib.hid (fun hz => ents_some (h := h) (b := b) (p := 4) (n := cn) (alone := al) hlt HK.out hz)
          have HR := Lib.hid (rts_succ h b 4 k)
          have HJ := Lib.hid (fun (hc : ckE h (entP b (4 + 20 * k)) al = 0) => show ∀ i, i < k + 1 → ckE h (entP b (4 + 20 * i)) al = 0 from fun i hi => by
            by_cases hik : i < k
            · exact HK.out i hik
            · obtain rfl : i = k := by omega
              exact hc)
          have HP : Hid (((4 + 20 * (k + 1) : Nat) : Int) = ((4 + 20 * k : Nat) : Int) + 20) := Lib.hid (by omega)
          have hp : 4 + 20 * k + 20 ≤ b.size := by have := HC.out; omega
          have HM : Hid (b.size - ((4 + 20 * k : Nat) : Int).toNat > b.size - (((4 + 20 * k : Nat) : Int) + 20).toNat) := Lib.hid (by omega)
          have HL1 : Hid ((rts h b 4 k).length ≤ 100000) := Lib.hid (by rw [rts_len]; have := HC.out; omega)
          have HX0 : Hid (rts h b 4 k = rts h b 4 k) := Lib.hid rfl
          clear hk HK HX0
          generalize rts h b 4 k = lk at *
          generalize hp0 : 4 + 20 * k = p at *
          clear hp0
          have sl := Ent.sl_m b (p : Int) ((p : Int) + 20) p (p + 20) rfl (by omega) (by omega) hp
          have hz9 : (b.extract p (p + 20)).size = 20 := by simp; omega
          have he : Hid (E4 (entP b p)) := Lib.hid (ent4 _ hz9)
          have PE1 : Hid (∀ W, Calls Try.prog 23 #[.string (b.extract p (p + 20))] W fun e w' => e = .returned (.tuple #[.agg (entP b p).cells, .bool true]) ∧ Below W.heap.size W w') := Lib.hid (fun W => PE.out _ hz9 W)
          clear hz9 PE
          generalize entP b p = x at *
          go_wp2_with fail
          refine (PE1.out _).mono ?_
          rintro e w1 ⟨rfl, hb⟩
          have HL := Lib.hid (HL.out.call hb)
          clear hb PE1 sl
          go_upto_region 15 with (first | (refine wpList_storeK (b := w1.heap.size) shE rfl _ _ rfl rfl rfl (Bk.Bk.new 48 w1 E.zero.cells) rfl rfl (E.one x) ?_))
          have H0 := Lib.hid (show Qe w ((w1.alloc (.cells x.cells 48)).drew) u8 lk w1.heap.size x from Qe.call ⟨HL.out.call ((Below.refl w1.heap.size w1).alloc (Nat.le_refl _) _), Bk.Bk.new 48 w1 x.cells⟩ (Below.refl _ _).drew)
          change Code.wp _ _ _ _ ((w1.alloc (.cells E.zero.cells 48)).setRow w1.heap.size x.cells)
          rw [World.setRow_alloc_new]
          clear HL
          generalize w1.alloc (.cells x.cells 48) = W2 at *
          generalize w1.heap.size = g at *
          refine wp_region_held_drew (S := fun W => Qe w W u8 lk g x) (by kernel_rfl) H0.out (fun hS => ?_)
          clear H0
          generalize W2.drew = w0 at *
          have j0 := idx b 0 0 rfl (by omega)
          have j1 := idx b 1 1 rfl (by omega)
          have v0 := conv8 (bt b 0) (bt_nn _ _) (bt_lt _ _)
          have v1 := conv8 (bt b 1) (bt_nn _ _) (bt_lt _ _)
          have hw1 : IntKind.i64.wrap ((b.size : Int) - 4) = (b.size : Int) - 4 := IntWalk.i64_in _ (by omega)
          have hw2 : wrap64 ((b.size : Int) - 4) = (b.size : Int) - 4 := IntWalk.wrap64_in _ (by omega)
          refine H.take (i := 0) (v := .agg x.cells) (by simp only [List.getElem?_toArray, List.getElem?_cons_zero]; rfl) (by kernel_rfl) rfl (by kernel_rfl) (by kernel_rfl) (by kernel_rfl) (fun _ _ _ h => h) ?h0 hS ?_
          case h0 => exact fun w hw => run_loadK (x := .tmp 10) shE rfl rfl hw.en rfl
          try simp only [Act.put, List.setIfInBounds_toArray, List.set_cons_zero, List.set_cons_succ]
          refine H.take (i := 1) (v := .string b) (by simp only [List.getElem?_toArray, List.getElem?_cons_succ, List.getElem?_cons_zero]; rfl) (by kernel_rfl) rfl (by kernel_rfl) (by kernel_rfl) (by kernel_rfl) (fun _ _ _ h => h) ?h1 hS ?_
          case h1 => exact fun w _ => rfl
          try simp only [Act.put, List.setIfInBounds_toArray, List.set_cons_zero, List.set_cons_succ]
          refine H.take (i := 2) (v := .int .u8 (bt b 0)) (by simp only [List.getElem?_toArray, List.getElem?_cons_succ, List.getElem?_cons_zero]; rfl) (by kernel_rfl) rfl (by kernel_rfl) (by kernel_rfl) (by kernel_rfl) (fun _ _ _ h => h) ?h2 hS ?_
          case h2 => (intro w hw; go_simp; first | done | (with_reducible rfl))
          try simp only [Act.put, List.setIfInBounds_toArray, List.set_cons_zero, List.set_cons_succ]
          refine H.take (i := 3) (v := .int .i64 (bt b 0)) (by simp only [List.getElem?_toArray, List.getElem?_cons_succ, List.getElem?_cons_zero]; rfl) (by kernel_rfl) rfl (by kernel_rfl) (by kernel_rfl) (by kernel_rfl) (fun _ _ _ h => h) ?h3 hS ?_
          case h3 => (intro w hw; go_simp; first | done | (with_reducible rfl))
          try simp only [Act.put, List.setIfInBounds_toArray, List.set_cons_zero, List.set_cons_succ]
          refine H.take (i := 4) (v := .string b) (by simp only [List.getElem?_toArray, List.getElem?_cons_succ, List.getElem?_cons_zero]; rfl) (by kernel_rfl) rfl (by kernel_rfl) (by kernel_rfl) (by kernel_rfl) (fun _ _ _ h => h) ?h4 hS ?_
          case h4 => exact fun w _ => rfl
          try simp only [Act.put, List.setIfInBounds_toArray, List.set_cons_zero, List.set_cons_succ]
          refine H.take (i := 5) (v := .int .u8 (bt b 1)) (by simp only [List.getElem?_toArray, List.getElem?_cons_succ, List.getElem?_cons_zero]; rfl) (by kernel_rfl) rfl (by kernel_rfl) (by kernel_rfl) (by kernel_rfl) (fun _ _ _ h => h) ?h5 hS ?_
          case h5 => (intro w hw; go_simp; first | done | (with_reducible rfl))
          try simp only [Act.put, List.setIfInBounds_toArray, List.set_cons_zero, List.set_cons_succ]
          refine H.take (i := 6) (v := .int .i64 (bt b 1)) (by simp only [List.getElem?_toArray, List.getElem?_cons_succ, List.getElem?_cons_zero]; rfl) (by kernel_rfl) rfl (by kernel_rfl) (by kernel_rfl) (by kernel_rfl) (fun _ _ _ h => h) ?h6 hS ?_
          case h6 => (intro w hw; go_simp; first | done | (with_reducible rfl))
          try simp only [Act.put, List.setIfInBounds_toArray, List.set_cons_zero, List.set_cons_succ]
          refine H.take (i := 7) (v := .string ⟨#[]⟩) (by simp only [List.getElem?_toArray, List.getElem?_cons_succ, List.getElem?_cons_zero]; rfl) (by kernel_rfl) rfl (by kernel_rfl) (by kernel_rfl) (by kernel_rfl) (fun _ _ _ h => h) ?h7 hS ?_
          case h7 => exact fun w _ => rfl
          try simp only [Act.put, List.setIfInBounds_toArray, List.set_cons_zero, List.set_cons_succ]
          refine H.take (i := 8) (v := .string b) (by simp only [List.getElem?_toArray, List.getElem?_cons_succ, List.getElem?_cons_zero]; rfl) (by kernel_rfl) rfl (by kernel_rfl) (by kernel_rfl) (by kernel_rfl) (fun _ _ _ h => h) ?h8 hS ?_
          case h8 => exact fun w _ => rfl
          try simp only [Act.put, List.setIfInBounds_toArray, List.set_cons_zero, List.set_cons_succ]
          refine H.take (i := 9) (v := .int .i64 (b.size : Int)) (by simp only [List.getElem?_toArray, List.getElem?_cons_succ, List.getElem?_cons_zero]; rfl) (by kernel_rfl) rfl (by kernel_rfl) (by kernel_rfl) (by kernel_rfl) (fun _ _ _ h => h) ?h9 hS ?_
          case h9 => (intro w hw; go_simp; first | done | (with_reducible rfl))
          try simp only [Act.put, List.setIfInBounds_toArray, List.set_cons_zero, List.set_cons_succ]
          refine H.take (i := 10) (v := .int .i64 4) (by simp only [List.getElem?_toArray, List.getElem?_cons_succ, List.getElem?_cons_zero]; rfl) (by kernel_rfl) rfl (by kernel_rfl) (by kernel_rfl) (by kernel_rfl) (fun _ _ _ h => h) ?h10 hS ?_
          case h10 => exact fun w _ => rfl
          try simp only [Act.put, List.setIfInBounds_toArray, List.set_cons_zero, List.set_cons_succ]
          refine H.take (i := 11) (v := .int .i64 ((b.size : Int) - 4)) (by simp only [List.getElem?_toArray, List.getElem?_cons_succ, List.getElem?_cons_zero]; rfl) (by kernel_rfl) rfl (by kernel_rfl) (by kernel_rfl) (by kernel_rfl) (fun _ _ _ h => h) ?h11 hS ?_
          case h11 => (intro w hw; go_simp; first | done | (with_reducible rfl))
          try simp only [Act.put, List.setIfInBounds_toArray, List.set_cons_zero, List.set_cons_succ]
          refine H.take (i := 12) (v := .bool al) (by simp only [List.getElem?_toArray, List.getElem?_cons_succ, List.getElem?_cons_zero]; rfl) (by kernel_rfl) rfl (by kernel_rfl) (by kernel_rfl) (by kernel_rfl) (fun _ _ _ h => h) ?h12 hS ?_
          case h12 => (intro w hw; go_simp; first | done | (with_reducible rfl))
          try simp only [Act.put, List.setIfInBounds_toArray, List.set_cons_zero, List.set_cons_succ]
          clear j0 j1 v0 v1 hw1 hw2
          refine wpAnyH_ready (rs := [13, 17]) (by kernel_rfl) (by simp) ?_
          refine AllReadyH.cons rfl (fun K hK => ?oA2) (AllReadyH.cons rfl (fun K hK => ?oB2) AllReadyH.nil)
          case' oA2 =>
            go_simp
            refine (PR.out x al w0 he.out).mono ?_
            rintro e w13 ⟨m, rfl, hm, hb⟩
            refine hK.out _ _ (hS.call hb) (fun hS13 => ?_)
            clear hK K hS
            have hS := hS13
            clear hS13 hb
            try simp only [Act.put, List.setIfInBounds_toArray, List.set_cons_zero, List.set_cons_succ]
            refine H.take (i := 14) (v := .tuple #[.agg m.cells, .int .i64 (ckE h x al)]) (by simp only [List.getElem?_toArray, List.getElem?_cons_succ, List.getElem?_cons_zero]; rfl) (by kernel_rfl) rfl (by kernel_rfl) (by kernel_rfl) (by kernel_rfl) (fun _ _ _ h => h) ?h14 hS ?_
            case h14 => exact fun w _ => rfl
            try simp only [Act.put, List.setIfInBounds_toArray, List.set_cons_zero, List.set_cons_succ]
            refine H.take (i := 15) (v := .agg m.cells) (by simp only [List.getElem?_toArray, List.getElem?_cons_succ, List.getElem?_cons_zero]; rfl) (by kernel_rfl) rfl (by kernel_rfl) (by kernel_rfl) (by kernel_rfl) (fun _ _ _ h => h) ?h15 hS ?_
            case h15 => (intro w hw; go_simp; first | done | (with_reducible rfl))
            try simp only [Act.put, List.setIfInBounds_toArray, List.set_cons_zero, List.set_cons_succ]
            refine H.take (i := 16) (v := .int .i64 (ckE h x al)) (by simp only [List.getElem?_toArray, List.getElem?_cons_succ, List.getElem?_cons_zero]; rfl) (by kernel_rfl) rfl (by kernel_rfl) (by kernel_rfl) (by kernel_rfl) (fun _ _ _ h => h) ?h16 hS ?_
            case h16 => (intro w hw; go_simp; first | done | (with_reducible rfl))
            try simp only [Act.put, List.setIfInBounds_toArray, List.set_cons_zero, List.set_cons_succ]
            refine wpAnyH_ready (rs := [17]) (by kernel_rfl) (by simp) ?_
            refine AllReadyH.cons rfl (fun K hK => ?_) AllReadyH.nil
            go_simp
            refine hK.out _ _ (hS.call ((Below.refl w13.heap.size w13).alloc (Nat.le_refl _) (.cells M.zero.cells 34))) (fun hS2 => ?_)
            clear hK K
            try simp only [Act.put, List.setIfInBounds_toArray, List.set_cons_zero, List.set_cons_succ]
            have HB := Lib.hid (show Bx ((w13.alloc (.cells M.zero.cells 34)).setRow w13.heap.size m.cells) w13.heap.size m from (Bx.new w13 M.zero).put)
            have hS4 : Qe w ((w13.alloc (.cells M.zero.cells 34)).setRow w13.heap.size m.cells) u8 lk g x := by rw [World.setRow_alloc_new]; exact hS.call ((Below.refl w13.heap.size w13).alloc (Nat.le_refl _) (.cells m.cells 34))
            refine Hx.H.storeRow (i := 18) (by simp only [List.getElem?_toArray, List.getElem?_cons_succ, List.getElem?_cons_zero]; rfl) (by kernel_rfl) rfl rfl (by kernel_rfl) w13.heap.size m.cells rfl rfl 34 M.zero.cells (heap_alloc_new _ _) infoM rfl (oneM _) hS4 ?_
            clear hS hS2
            have hS := hS4
            clear hS4
            change wpAnyH _ _ _ _ _ _ _ _ ((w13.alloc (.cells M.zero.cells 34)).setRow w13.heap.size m.cells)
            generalize (w13.alloc (.cells M.zero.cells 34)).setRow w13.heap.size m.cells = W9 at *
            generalize w13.heap.size = g2 at *
            refine H.take (i := 19) (v := .int .i64 (ckE h x al)) (by simp only [List.getElem?_toArray, List.getElem?_cons_succ, List.getElem?_cons_zero]; rfl) (by kernel_rfl) rfl (by kernel_rfl) (by kernel_rfl) (by kernel_rfl) (fun _ _ _ h => h) ?h19 hS ?_
            case h19 => exact fun w _ => rfl
            try simp only [Act.put, List.setIfInBounds_toArray, List.set_cons_zero, List.set_cons_succ]
            refine wpAnyH_done (by kernel_rfl) ?_ _
          case' oB2 =>
            have HOB := Lib.hid (show (∀ k, u8.ownBlock = some k → k < w0.heap.size) ∧ g < w0.heap.size ∧ w.heap.size ≤ w0.heap.size from ⟨fun k hk => (World.ownsRow.lt hS.q.own k hk).2, hS.en.lt, hS.q.bel.size⟩)
            go_simp
            refine hK.out _ _ (hS.call ((Below.refl w0.heap.size w0).alloc (Nat.le_refl _) (.cells M.zero.cells 34))) (fun hS2 => ?_)
            clear hK K
            try simp only [Act.put, List.setIfInBounds_toArray, List.set_cons_zero, List.set_cons_succ]
            have HB0 := Lib.hid (Bx.new w0 M.zero)
            change wpAnyH _ _ _ _ _ _ _ _ (w0.alloc (.cells M.zero.cells 34))
            have hS3 : Qe w (w0.alloc (.cells M.zero.cells 34)) u8 lk g x := hS2
            clear hS hS2
            have hS := hS3
            clear hS3
            generalize w0.alloc (.cells M.zero.cells 34) = w1 at *
            generalize w0.heap.size = g2 at *
            refine wpAnyH_ready (rs := [13]) (by kernel_rfl) (by simp) ?_
            refine AllReadyH.cons rfl (fun K hK => ?_) AllReadyH.nil
            go_simp
            refine (PR.out x al w1 he.out).mono ?_
            rintro e w13 ⟨m, rfl, hm, hb⟩
            refine hK.out _ _ (hS.call hb) (fun hS13 => ?_)
            clear hK K hS
            have hS := hS13
            have HB1 := Lib.hid (HB0.out.below hb)
            clear hS13 HB0
            try simp only [Act.put, List.setIfInBounds_toArray, List.set_cons_zero, List.set_cons_succ]
            refine H.take (i := 14) (v := .tuple #[.agg m.cells, .int .i64 (ckE h x al)]) (by simp only [List.getElem?_toArray, List.getElem?_cons_succ, List.getElem?_cons_zero]; rfl) (by kernel_rfl) rfl (by kernel_rfl) (by kernel_rfl) (by kernel_rfl) (fun _ _ _ h => h) ?h14 hS ?_
            case h14 => exact fun w _ => rfl
            try simp only [Act.put, List.setIfInBounds_toArray, List.set_cons_zero, List.set_cons_succ]
            refine H.take (i := 15) (v := .agg m.cells) (by simp only [List.getElem?_toArray, List.getElem?_cons_succ, List.getElem?_cons_zero]; rfl) (by kernel_rfl) rfl (by kernel_rfl) (by kernel_rfl) (by kernel_rfl) (fun _ _ _ h => h) ?h15 hS ?_
            case h15 => (intro w hw; go_simp; first | done | (with_reducible rfl))
            try simp only [Act.put, List.setIfInBounds_toArray, List.set_cons_zero, List.set_cons_succ]
            refine H.take (i := 16) (v := .int .i64 (ckE h x al)) (by simp only [List.getElem?_toArray, List.getElem?_cons_succ, List.getElem?_cons_zero]; rfl) (by kernel_rfl) rfl (by kernel_rfl) (by kernel_rfl) (by kernel_rfl) (fun _ _ _ h => h) ?h16 hS ?_
            case h16 => (intro w hw; go_simp; first | done | (with_reducible rfl))
            try simp only [Act.put, List.setIfInBounds_toArray, List.set_cons_zero, List.set_cons_succ]
            have hS4 : Qe w (w13.setRow g2 m.cells) u8 lk g x := hS.row HOB.out.1 HOB.out.2.1 HOB.out.2.2 _
            have HB := Lib.hid (HB1.out.put (m' := m))
            refine Hx.H.storeRow (i := 18) (by simp only [List.getElem?_toArray, List.getElem?_cons_succ, List.getElem?_cons_zero]; rfl) (by kernel_rfl) rfl rfl (by kernel_rfl) g2 m.cells rfl rfl 34 M.zero.cells HB1.out infoM rfl (oneM _) hS4 ?_
            clear hS hb HB1 HOB
            have hS := hS4
            clear hS4
            generalize w13.setRow g2 m.cells = W9 at *
            refine H.take (i := 19) (v := .int .i64 (ckE h x al)) (by simp only [List.getElem?_toArray, List.getElem?_cons_succ, List.getElem?_cons_zero]; rfl) (by kernel_rfl) rfl (by kernel_rfl) (by kernel_rfl) (by kernel_rfl) (fun _ _ _ h => h) ?h19 hS ?_
            case h19 => exact fun w _ => rfl
            try simp only [Act.put, List.setIfInBounds_toArray, List.set_cons_zero, List.set_cons_succ]
            refine wpAnyH_done (by kernel_rfl) ?_ _
          all_goals
            have HQ := Lib.hid hS
            clear hS
            have HMM := Lib.hid hm
            clear hm
            rcases (show ckE h x al ≠ 0 ∨ ckE h x al = 0 by omega) with hc | hc
            · have HCC := Lib.hid (HS.out hc)
              have e1 : (ckE h x al == 0) = false := by simpa using hc
              have e2 : (ckE h x al != 0) = true := by rw [bne, e1]; rfl
              clear hc HS
              generalize ckE h x al = c at *
              go_wp2
              go_ret3
              exact Ans.no (HO.out.trans HCC.out) HQ.out.q.bel
            have HK1 := Lib.hid (HJ.out hc)
            have hmr := HMM.out hc
            subst hmr
            rw [hc]
            clear hc HS HJ HMM
            go_upto_region 18 with fail
            have HL2 := Lib.hid (HQ.out.q.call ((Below.refl W9.heap.size W9).alloc (Nat.le_refl _) (.cells (routeM h x).cells 34)))
            have HCn := Lib.hid (cells_new (routeM h x) W9)
            go_wp2_with (first | (refine wpList_loadM (b := g2) (m := routeM h x) rfl _ rfl rfl HB.out ?_) | (refine bs_one rfl _ rfl (m := routeM h x) rfl ?_) | (at_builtin; refine app_one rfl _ _ rfl w.heap.size _ _ (routeM h x) _ _ rfl HL2.out.own rfl HCn.out HL1.out ?cAp2 ?_))
            case cAp2 => exact HL2.out.bel.size
            intro v' w5 hown hb hsz
            have HL := Lib.hid (show Q w w5 v' (rts h b 4 (k + 1)) from ⟨by rw [HR.out]; exact hown, HL2.out.bel.trans hb⟩)
            clear hown hb hsz HCn HL2 HR HQ HB
            go_wp2
            go_roundw
            case rel => exact ⟨k + 1, hlt, by rw [HP.out], HL, HK1⟩
            case measure => have := HM.out; simp only [intOf]; omega
        · obtain rfl : k = cn := by omega
          have HE := Lib.hid (show out b = (rts h b 4 k, 0, 0) from HO.out.trans (ents_none HK.out))
          obtain ⟨a, c, rfl⟩ := HL.out.own.slice
          have HW := Lib.hid (HL.out.own.row (HF.out k))
          have hge : ¬ ((4 + 20 * k : Nat) : Int) < (b.size : Int) := by have := HC.out; omega
          have hge2 : decide (((4 + 20 * k : Nat) : Int) < (b.size : Int)) = false := decide_eq_false hge
          clear hlt hk
          generalize hp0 : 4 + 20 * k = p at *
          clear hp0
          go_wp2
          go_ret3
          exact Ans.of HE.out HW.out HL.out.bel
    case' true =>
      have hsb := HS.out
      have HD2 := Lib.hid (show hdM b = hdOf (bt b 0) (bt b 1) au by rw [HD.out, hsb]; rfl)
      have HT2 := Lib.hid (show atN b = 24 by rw [HT.out, hsb]; rfl)
      clear HS HD HT hsb sb
      go_wp2_with fail
      refine (PI.out _).mono ?_
      rintro e w1 ⟨rfl, rfl⟩
      go_wp2_with fail
      refine (PG.out _).mono ?_
      rintro e w1 ⟨rfl, rfl⟩
      rcases (show b.size = 24 ∨ b.size ≠ 24 by omega) with q | q
      · have HZ := Lib.hid (show out b = ([], 24, 8) by rw [HO.out, if_pos (by rw [HT2.out, q]), q]; rfl)
        have e2 : ((b.size : Int) == 24) = true := by rw [beq_iff_eq]; omega
        clear q
        go_wp2
        go_ret3
        exact Ans.no HZ.out (Below.refl _ _)
      have e2 : ((b.size : Int) == 24) = false := by rw [beq_eq_false_iff_ne]; omega
      have hz3 : 24 < b.size := by omega
      clear q
      go_upto_region 12 with fail
      clear e1 e2
      clear PI PG i1 sl
      have hq : 24 ≤ b.size := by omega
      have hne : ¬ atN b = b.size := by rw [HT2.out]; omega
      have HO := Lib.hid (show out b = ents (hdOf (bt b 0) (bt b 1) au) b 24 (cntN b) (decide (24 + 20 = b.size)) by rw [HO.out, if_neg hne, HT2.out, HD2.out])
      have HC : Hid (b.size = 24 + 20 * cntN b ∧ cntN b ≤ 100) := Lib.hid (by unfold cntN; rw [HT2.out]; have := HN.out; omega)
      have hal : ((b.size : Int) - 24 == 20) = decide (24 + 20 = b.size) := by rw [Bool.eq_iff_iff, beq_iff_eq, decide_eq_true_iff]; omega
      have HF := Lib.hid (fun k => rts_flat (hdOf (bt b 0) (bt b 1) au) b 24 k rfl rfl)
      have PR := Lib.hid (fun (x : E) (al : Bool) W (hx : E4 x) => route_rq x (bt b 0) (bt b 1) au al W hx)
      have PE := Lib.hid (fun (s : ByteArray) (hx : s.size = 20) W => Ent.rget_yes s W hx)
      clear HD2 HT2 hne
      generalize decide (24 + 20 = b.size) = al at *
      generalize hdOf (bt b 0) (bt b 1) au = h at *
      generalize cntN b = cn at *
      go_loopw [8, 9] (fun v i wr => ∃ k : Nat, k ≤ cn ∧ i = .int .i64 ((24 + 20 * k : Nat) : Int) ∧ Hid (Q w wr v (rts h b 24 k)) ∧ Hid (∀ i, i < k → ckE h (entP b (24 + 20 * i)) al = 0)) (fun _ i _ => b.size - (intOf i).toNat)
      case atStart => exact ⟨0, Nat.zero_le _, rfl, Lib.hid ⟨Lst.nil _ _, Below.refl _ _⟩, Lib.hid (fun i hi => absurd hi (by omega))⟩
      case round =>
        obtain ⟨k, hk, rfl, HL, HK⟩ := hrel
        by_cases hlt : k < cn
        · have HS := Lib.hid (fun hz => ents_some (h := h) (b := b) (p := 24) (n := cn) (alone := al) hlt HK.out hz)
          have HR := Lib.hid (rts_succ h b 24 k)
          have HJ := Lib.hid (fun (hc : ckE h (entP b (24 + 20 * k)) al = 0) => show ∀ i, i < k + 1 → ckE h (entP b (24 + 20 * i)) al = 0 from fun i hi => by
            by_cases hik : i < k
            · exact HK.out i hik
            · obtain rfl : i = k := by omega
              exact hc)
          have HP : Hid (((24 + 20 * (k + 1) : Nat) : Int) = ((24 + 20 * k : Nat) : Int) + 20) := Lib.hid (by omega)
          have hp : 24 + 20 * k + 20 ≤ b.size := by have := HC.out; omega
          have HM : Hid (b.size - ((24 + 20 * k : Nat) : Int).toNat > b.size - (((24 + 20 * k : Nat) : Int) + 20).toNat) := Lib.hid (by omega)
          have HL1 : Hid ((rts h b 24 k).length ≤ 100000) := Lib.hid (by rw [rts_len]; have := HC.out; omega)
          have HX0 : Hid (rts h b 24 k = rts h b 24 k) := Lib.hid rfl
          clear hk HK HX0
          generalize rts h b 24 k = lk at *
          generalize hp0 : 24 + 20 * k = p at *
          clear hp0
          have sl := Ent.sl_m b (p : Int) ((p : Int) + 20) p (p + 20) rfl (by omega) (by omega) hp
          have hz9 : (b.extract p (p + 20)).size = 20 := by simp; omega
          have he : Hid (E4 (entP b p)) := Lib.hid (ent4 _ hz9)
          have PE1 : Hid (∀ W, Calls Try.prog 23 #[.string (b.extract p (p + 20))] W fun e w' => e = .returned (.tuple #[.agg (entP b p).cells, .bool true]) ∧ Below W.heap.size W w') := Lib.hid (fun W => PE.out _ hz9 W)
          clear hz9 PE
          generalize entP b p = x at *
          go_wp2_with fail
          refine (PE1.out _).mono ?_
          rintro e w1 ⟨rfl, hb⟩
          have HL := Lib.hid (HL.out.call hb)
          clear hb PE1 sl
          go_upto_region 15 with (first | (refine wpList_storeK (b := w1.heap.size) shE rfl _ _ rfl rfl rfl (Bk.Bk.new 48 w1 E.zero.cells) rfl rfl (E.one x) ?_))
          have H0 := Lib.hid (show Qe w ((w1.alloc (.cells x.cells 48)).drew) u8 lk w1.heap.size x from Qe.call ⟨HL.out.call ((Below.refl w1.heap.size w1).alloc (Nat.le_refl _) _), Bk.Bk.new 48 w1 x.cells⟩ (Below.refl _ _).drew)
          change Code.wp _ _ _ _ ((w1.alloc (.cells E.zero.cells 48)).setRow w1.heap.size x.cells)
          rw [World.setRow_alloc_new]
          clear HL
          generalize w1.alloc (.cells x.cells 48) = W2 at *
          generalize w1.heap.size = g at *
          refine wp_region_held_drew (S := fun W => Qe w W u8 lk g x) (by kernel_rfl) H0.out (fun hS => ?_)
          clear H0
          generalize W2.drew = w0 at *
          have j0 := idx b 0 0 rfl (by omega)
          have j1 := idx b 1 1 rfl (by omega)
          have v0 := conv8 (bt b 0) (bt_nn _ _) (bt_lt _ _)
          have v1 := conv8 (bt b 1) (bt_nn _ _) (bt_lt _ _)
          have hw1 : IntKind.i64.wrap ((b.size : Int) - 24) = (b.size : Int) - 24 := IntWalk.i64_in _ (by omega)
          have hw2 : wrap64 ((b.size : Int) - 24) = (b.size : Int) - 24 := IntWalk.wrap64_in _ (by omega)
          refine H.take (i := 0) (v := .agg x.cells) (by simp only [List.getElem?_toArray, List.getElem?_cons_zero]; rfl) (by kernel_rfl) rfl (by kernel_rfl) (by kernel_rfl) (by kernel_rfl) (fun _ _ _ h => h) ?h0 hS ?_
          case h0 => exact fun w hw => run_loadK (x := .tmp 10) shE rfl rfl hw.en rfl
          try simp only [Act.put, List.setIfInBounds_toArray, List.set_cons_zero, List.set_cons_succ]
          refine H.take (i := 1) (v := .string b) (by simp only [List.getElem?_toArray, List.getElem?_cons_succ, List.getElem?_cons_zero]; rfl) (by kernel_rfl) rfl (by kernel_rfl) (by kernel_rfl) (by kernel_rfl) (fun _ _ _ h => h) ?h1 hS ?_
          case h1 => exact fun w _ => rfl
          try simp only [Act.put, List.setIfInBounds_toArray, List.set_cons_zero, List.set_cons_succ]
          refine H.take (i := 2) (v := .int .u8 (bt b 0)) (by simp only [List.getElem?_toArray, List.getElem?_cons_succ, List.getElem?_cons_zero]; rfl) (by kernel_rfl) rfl (by kernel_rfl) (by kernel_rfl) (by kernel_rfl) (fun _ _ _ h => h) ?h2 hS ?_
          case h2 => (intro w hw; go_simp; first | done | (with_reducible rfl))
          try simp only [Act.put, List.setIfInBounds_toArray, List.set_cons_zero, List.set_cons_succ]
          refine H.take (i := 3) (v := .int .i64 (bt b 0)) (by simp only [List.getElem?_toArray, List.getElem?_cons_succ, List.getElem?_cons_zero]; rfl) (by kernel_rfl) rfl (by kernel_rfl) (by kernel_rfl) (by kernel_rfl) (fun _ _ _ h => h) ?h3 hS ?_
          case h3 => (intro w hw; go_simp; first | done | (with_reducible rfl))
          try simp only [Act.put, List.setIfInBounds_toArray, List.set_cons_zero, List.set_cons_succ]
          refine H.take (i := 4) (v := .string b) (by simp only [List.getElem?_toArray, List.getElem?_cons_succ, List.getElem?_cons_zero]; rfl) (by kernel_rfl) rfl (by kernel_rfl) (by kernel_rfl) (by kernel_rfl) (fun _ _ _ h => h) ?h4 hS ?_
          case h4 => exact fun w _ => rfl
          try simp only [Act.put, List.setIfInBounds_toArray, List.set_cons_zero, List.set_cons_succ]
          refine H.take (i := 5) (v := .int .u8 (bt b 1)) (by simp only [List.getElem?_toArray, List.getElem?_cons_succ, List.getElem?_cons_zero]; rfl) (by kernel_rfl) rfl (by kernel_rfl) (by kernel_rfl) (by kernel_rfl) (fun _ _ _ h => h) ?h5 hS ?_
          case h5 => (intro w hw; go_simp; first | done | (with_reducible rfl))
          try simp only [Act.put, List.setIfInBounds_toArray, List.set_cons_zero, List.set_cons_succ]
          refine H.take (i := 6) (v := .int .i64 (bt b 1)) (by simp only [List.getElem?_toArray, List.getElem?_cons_succ, List.getElem?_cons_zero]; rfl) (by kernel_rfl) rfl (by kernel_rfl) (by kernel_rfl) (by kernel_rfl) (fun _ _ _ h => h) ?h6 hS ?_
          case h6 => (intro w hw; go_simp; first | done | (with_reducible rfl))
          try simp only [Act.put, List.setIfInBounds_toArray, List.set_cons_zero, List.set_cons_succ]
          refine H.take (i := 7) (v := .string au) (by simp only [List.getElem?_toArray, List.getElem?_cons_succ, List.getElem?_cons_zero]; rfl) (by kernel_rfl) rfl (by kernel_rfl) (by kernel_rfl) (by kernel_rfl) (fun _ _ _ h => h) ?h7 hS ?_
          case h7 => exact fun w _ => rfl
          try simp only [Act.put, List.setIfInBounds_toArray, List.set_cons_zero, List.set_cons_succ]
          refine H.take (i := 8) (v := .string b) (by simp only [List.getElem?_toArray, List.getElem?_cons_succ, List.getElem?_cons_zero]; rfl) (by kernel_rfl) rfl (by kernel_rfl) (by kernel_rfl) (by kernel_rfl) (fun _ _ _ h => h) ?h8 hS ?_
          case h8 => exact fun w _ => rfl
          try simp only [Act.put, List.setIfInBounds_toArray, List.set_cons_zero, List.set_cons_succ]
          refine H.take (i := 9) (v := .int .i64 (b.size : Int)) (by simp only [List.getElem?_toArray, List.getElem?_cons_succ, List.getElem?_cons_zero]; rfl) (by kernel_rfl) rfl (by kernel_rfl) (by kernel_rfl) (by kernel_rfl) (fun _ _ _ h => h) ?h9 hS ?_
          case h9 => (intro w hw; go_simp; first | done | (with_reducible rfl))
          try simp only [Act.put, List.setIfInBounds_toArray, List.set_cons_zero, List.set_cons_succ]
          refine H.take (i := 10) (v := .int .i64 24) (by simp only [List.getElem?_toArray, List.getElem?_cons_succ, List.getElem?_cons_zero]; rfl) (by kernel_rfl) rfl (by kernel_rfl) (by kernel_rfl) (by kernel_rfl) (fun _ _ _ h => h) ?h10 hS ?_
          case h10 => exact fun w _ => rfl
          try simp only [Act.put, List.setIfInBounds_toArray, List.set_cons_zero, List.set_cons_succ]
          refine H.take (i := 11) (v := .int .i64 ((b.size : Int) - 24)) (by simp only [List.getElem?_toArray, List.getElem?_cons_succ, List.getElem?_cons_zero]; rfl) (by kernel_rfl) rfl (by kernel_rfl) (by kernel_rfl) (by kernel_rfl) (fun _ _ _ h => h) ?h11 hS ?_
          case h11 => (intro w hw; go_simp; first | done | (with_reducible rfl))
          try simp only [Act.put, List.setIfInBounds_toArray, List.set_cons_zero, List.set_cons_succ]
          refine H.take (i := 12) (v := .bool al) (by simp only [List.getElem?_toArray, List.getElem?_cons_succ, List.getElem?_cons_zero]; rfl) (by kernel_rfl) rfl (by kernel_rfl) (by kernel_rfl) (by kernel_rfl) (fun _ _ _ h => h) ?h12 hS ?_
          case h12 => (intro w hw; go_simp; first | done | (with_reducible rfl))
          try simp only [Act.put, List.setIfInBounds_toArray, List.set_cons_zero, List.set_cons_succ]
          clear j0 j1 v0 v1 hw1 hw2
          refine wpAnyH_ready (rs := [13, 17]) (by kernel_rfl) (by simp) ?_
          refine AllReadyH.cons rfl (fun K hK => ?oA3) (AllReadyH.cons rfl (fun K hK => ?oB3) AllReadyH.nil)
          case' oA3 =>
            go_simp
            refine (PR.out x al w0 he.out).mono ?_
            rintro e w13 ⟨m, rfl, hm, hb⟩
            refine hK.out _ _ (hS.call hb) (fun hS13 => ?_)
            clear hK K hS
            have hS := hS13
            clear hS13 hb
            try simp only [Act.put, List.setIfInBounds_toArray, List.set_cons_zero, List.set_cons_succ]
            refine H.take (i := 14) (v := .tuple #[.agg m.cells, .int .i64 (ckE h x al)]) (by simp only [List.getElem?_toArray, List.getElem?_cons_succ, List.getElem?_cons_zero]; rfl) (by kernel_rfl) rfl (by kernel_rfl) (by kernel_rfl) (by kernel_rfl) (fun _ _ _ h => h) ?h14 hS ?_
            case h14 => exact fun w _ => rfl
            try simp only [Act.put, List.setIfInBounds_toArray, List.set_cons_zero, List.set_cons_succ]
            refine H.take (i := 15) (v := .agg m.cells) (by simp only [List.getElem?_toArray, List.getElem?_cons_succ, List.getElem?_cons_zero]; rfl) (by kernel_rfl) rfl (by kernel_rfl) (by kernel_rfl) (by kernel_rfl) (fun _ _ _ h => h) ?h15 hS ?_
            case h15 => (intro w hw; go_simp; first | done | (with_reducible rfl))
            try simp only [Act.put, List.setIfInBounds_toArray, List.set_cons_zero, List.set_cons_succ]
            refine H.take (i := 16) (v := .int .i64 (ckE h x al)) (by simp only [List.getElem?_toArray, List.getElem?_cons_succ, List.getElem?_cons_zero]; rfl) (by kernel_rfl) rfl (by kernel_rfl) (by kernel_rfl) (by kernel_rfl) (fun _ _ _ h => h) ?h16 hS ?_
            case h16 => (intro w hw; go_simp; first | done | (with_reducible rfl))
            try simp only [Act.put, List.setIfInBounds_toArray, List.set_cons_zero, List.set_cons_succ]
            refine wpAnyH_ready (rs := [17]) (by kernel_rfl) (by simp) ?_
            refine AllReadyH.cons rfl (fun K hK => ?_) AllReadyH.nil
            go_simp
            refine hK.out _ _ (hS.call ((Below.refl w13.heap.size w13).alloc (Nat.le_refl _) (.cells M.zero.cells 34))) (fun hS2 => ?_)
            clear hK K
            try simp only [Act.put, List.setIfInBounds_toArray, List.set_cons_zero, List.set_cons_succ]
            have HB := Lib.hid (show Bx ((w13.alloc (.cells M.zero.cells 34)).setRow w13.heap.size m.cells) w13.heap.size m from (Bx.new w13 M.zero).put)
            have hS4 : Qe w ((w13.alloc (.cells M.zero.cells 34)).setRow w13.heap.size m.cells) u8 lk g x := by rw [World.setRow_alloc_new]; exact hS.call ((Below.refl w13.heap.size w13).alloc (Nat.le_refl _) (.cells m.cells 34))
            refine Hx.H.storeRow (i := 18) (by simp only [List.getElem?_toArray, List.getElem?_cons_succ, List.getElem?_cons_zero]; rfl) (by kernel_rfl) rfl rfl (by kernel_rfl) w13.heap.size m.cells rfl rfl 34 M.zero.cells (heap_alloc_new _ _) infoM rfl (oneM _) hS4 ?_
            clear hS hS2
            have hS := hS4
            clear hS4
            change wpAnyH _ _ _ _ _ _ _ _ ((w13.alloc (.cells M.zero.cells 34)).setRow w13.heap.size m.cells)
            generalize (w13.alloc (.cells M.zero.cells 34)).setRow w13.heap.size m.cells = W9 at *
            generalize w13.heap.size = g2 at *
            refine H.take (i := 19) (v := .int .i64 (ckE h x al)) (by simp only [List.getElem?_toArray, List.getElem?_cons_succ, List.getElem?_cons_zero]; rfl) (by kernel_rfl) rfl (by kernel_rfl) (by kernel_rfl) (by kernel_rfl) (fun _ _ _ h => h) ?h19 hS ?_
            case h19 => exact fun w _ => rfl
            try simp only [Act.put, List.setIfInBounds_toArray, List.set_cons_zero, List.set_cons_succ]
            refine wpAnyH_done (by kernel_rfl) ?_ _
          case' oB3 =>
            have HOB := Lib.hid (show (∀ k, u8.ownBlock = some k → k < w0.heap.size) ∧ g < w0.heap.size ∧ w.heap.size ≤ w0.heap.size from ⟨fun k hk => (World.ownsRow.lt hS.q.own k hk).2, hS.en.lt, hS.q.bel.size⟩)
            go_simp
            refine hK.out _ _ (hS.call ((Below.refl w0.heap.size w0).alloc (Nat.le_refl _) (.cells M.zero.cells 34))) (fun hS2 => ?_)
            clear hK K
            try simp only [Act.put, List.setIfInBounds_toArray, List.set_cons_zero, List.set_cons_succ]
            have HB0 := Lib.hid (Bx.new w0 M.zero)
            change wpAnyH _ _ _ _ _ _ _ _ (w0.alloc (.cells M.zero.cells 34))
            have hS3 : Qe w (w0.alloc (.cells M.zero.cells 34)) u8 lk g x := hS2
            clear hS hS2
            have hS := hS3
            clear hS3
            generalize w0.alloc (.cells M.zero.cells 34) = w1 at *
            generalize w0.heap.size = g2 at *
            refine wpAnyH_ready (rs := [13]) (by kernel_rfl) (by simp) ?_
            refine AllReadyH.cons rfl (fun K hK => ?_) AllReadyH.nil
            go_simp
            refine (PR.out x al w1 he.out).mono ?_
            rintro e w13 ⟨m, rfl, hm, hb⟩
            refine hK.out _ _ (hS.call hb) (fun hS13 => ?_)
            clear hK K hS
            have hS := hS13
            have HB1 := Lib.hid (HB0.out.below hb)
            clear hS13 HB0
            try simp only [Act.put, List.setIfInBounds_toArray, List.set_cons_zero, List.set_cons_succ]
            refine H.take (i := 14) (v := .tuple #[.agg m.cells, .int .i64 (ckE h x al)]) (by simp only [List.getElem?_toArray, List.getElem?_cons_succ, List.getElem?_cons_zero]; rfl) (by kernel_rfl) rfl (by kernel_rfl) (by kernel_rfl) (by kernel_rfl) (fun _ _ _ h => h) ?h14 hS ?_
            case h14 => exact fun w _ => rfl
            try simp only [Act.put, List.setIfInBounds_toArray, List.set_cons_zero, List.set_cons_succ]
            refine H.take (i := 15) (v := .agg m.cells) (by simp only [List.getElem?_toArray, List.getElem?_cons_succ, List.getElem?_cons_zero]; rfl) (by kernel_rfl) rfl (by kernel_rfl) (by kernel_rfl) (by kernel_rfl) (fun _ _ _ h => h) ?h15 hS ?_
            case h15 => (intro w hw; go_simp; first | done | (with_reducible rfl))
            try simp only [Act.put, List.setIfInBounds_toArray, List.set_cons_zero, List.set_cons_succ]
            refine H.take (i := 16) (v := .int .i64 (ckE h x al)) (by simp only [List.getElem?_toArray, List.getElem?_cons_succ, List.getElem?_cons_zero]; rfl) (by kernel_rfl) rfl (by kernel_rfl) (by kernel_rfl) (by kernel_rfl) (fun _ _ _ h => h) ?h16 hS ?_
            case h16 => (intro w hw; go_simp; first | done | (with_reducible rfl))
            try simp only [Act.put, List.setIfInBounds_toArray, List.set_cons_zero, List.set_cons_succ]
            have hS4 : Qe w (w13.setRow g2 m.cells) u8 lk g x := hS.row HOB.out.1 HOB.out.2.1 HOB.out.2.2 _
            have HB := Lib.hid (HB1.out.put (m' := m))
            refine Hx.H.storeRow (i := 18) (by simp only [List.getElem?_toArray, List.getElem?_cons_succ, List.getElem?_cons_zero]; rfl) (by kernel_rfl) rfl rfl (by kernel_rfl) g2 m.cells rfl rfl 34 M.zero.cells HB1.out infoM rfl (oneM _) hS4 ?_
            clear hS hb HB1 HOB
            have hS := hS4
            clear hS4
            generalize w13.setRow g2 m.cells = W9 at *
            refine H.take (i := 19) (v := .int .i64 (ckE h x al)) (by simp only [List.getElem?_toArray, List.getElem?_cons_succ, List.getElem?_cons_zero]; rfl) (by kernel_rfl) rfl (by kernel_rfl) (by kernel_rfl) (by kernel_rfl) (fun _ _ _ h => h) ?h19 hS ?_
            case h19 => exact fun w _ => rfl
            try simp only [Act.put, List.setIfInBounds_toArray, List.set_cons_zero, List.set_cons_succ]
            refine wpAnyH_done (by kernel_rfl) ?_ _
          all_goals
            have HQ := Lib.hid hS
            clear hS
            have HMM := Lib.hid hm
            clear hm
            rcases (show ckE h x al ≠ 0 ∨ ckE h x al = 0 by omega) with hc | hc
            · have HCC := Lib.hid (HS.out hc)
              have e1 : (ckE h x al == 0) = false := by simpa using hc
              have e2 : (ckE h x al != 0) = true := by rw [bne, e1]; rfl
              clear hc HS
              generalize ckE h x al = c at *
              go_wp2
              go_ret3
              exact Ans.no (HO.out.trans HCC.out) HQ.out.q.bel
            have HK1 := Lib.hid (HJ.out hc)
            have hmr := HMM.out hc
            subst hmr
            rw [hc]
            clear hc HS HJ HMM
            go_upto_region 18 with fail
            have HL2 := Lib.hid (HQ.out.q.call ((Below.refl W9.heap.size W9).alloc (Nat.le_refl _) (.cells (routeM h x).cells 34)))
            have HCn := Lib.hid (cells_new (routeM h x) W9)
            go_wp2_with (first | (refine wpList_loadM (b := g2) (m := routeM h x) rfl _ rfl rfl HB.out ?_) | (refine bs_one rfl _ rfl (m := routeM h x) rfl ?_) | (at_builtin; refine app_one rfl _ _ rfl w.heap.size _ _ (routeM h x) _ _ rfl HL2.out.own rfl HCn.out HL1.out ?cAp3 ?_))
            case cAp3 => exact HL2.out.bel.size
            intro v' w5 hown hb hsz
            have HL := Lib.hid (show Q w w5 v' (rts h b 24 (k + 1)) from ⟨by rw [HR.out]; exact hown, HL2.out.bel.trans hb⟩)
            clear hown hb hsz HCn HL2 HR HQ HB
            go_wp2
            go_roundw
            case rel => exact ⟨k + 1, hlt, by rw [HP.out], HL, HK1⟩
            case measure => have := HM.out; simp only [intOf]; omega
        · obtain rfl : k = cn := by omega
          have HE := Lib.hid (show out b = (rts h b 24 k, 0, 0) from HO.out.trans (ents_none HK.out))
          obtain ⟨a, c, rfl⟩ := HL.out.own.slice
          have HW := Lib.hid (HL.out.own.row (HF.out k))
          have hge : ¬ ((24 + 20 * k : Nat) : Int) < (b.size : Int) := by have := HC.out; omega
          have hge2 : decide (((24 + 20 * k : Nat) : Int) < (b.size : Int)) = false := decide_eq_false hge
          clear hlt hk
          generalize hp0 : 24 + 20 * k = p at *
          clear hp0
          go_wp2
          go_ret3
          exact Ans.of HE.out HW.out HL.out.bel
end Go.Proofs.Ytfaobpmbiocafaa.Rs
