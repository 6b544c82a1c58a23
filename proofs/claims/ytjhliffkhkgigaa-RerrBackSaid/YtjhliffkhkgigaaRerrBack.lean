/-
  The statement RerrBack, of any message and any bytes. No conditions.
-/
import Derived.Test.YtjhliffkhkgigaaY6
import Derived.Test.YtjhliffkhkgigaaOpen
namespace Go.Proofs.Ytjhliffkhkgigaa.rerrBack
open Go.ChangeShapes Go.WideShapes Go.ChangeAt Go.RowKit
open Go.ChangeMaps (open_string shut_string)
open Go.Proofs.Ytjhliffkhkgigaa.Ms
open Go.Proofs.Ytjhliffkhkgigaa.Box
open Go.Proofs.Ytjhliffkhkgigaa.Xv
open Go.Proofs.Ytjhliffkhkgigaa.Y1
open Go.Proofs.Ytjhliffkhkgigaa.Am
open Go.Proofs.Ytjhliffkhkgigaa.Y6
open Go.Proofs.Ytjhliffkhkgigaa.Hs
open Go.Proofs.Ytjhliffkhkgigaa.Open
set_option linter.unusedVariables false

open Go.Proofs.Ytjhliffkhkgigaa.Or (st_yes)
open Go.Proofs.Ytjhliffkhkgigaa.Xc (idx)
open Go.Proofs.Ytjhliffkhkgigaa.Own (ownM)
open Go.Proofs.Ytjhliffkhkgigaa.Hx (ex_built)
open Go.Proofs.Ytjhliffkhkgigaa.Nu (text_eq)
theorem subs_small {m : M} (h : okE m = true) : ∀ x ∈ m.sl, x.1.size ≤ 1099511627776 := fun x hx => by
  have := (okX_mem ((ok_iff m).1 h).subs x hx).2.2
  omega
theorem subs_few {m : M} {b : ByteArray} (h : okE m = true) (he : encE m = b.data.toList) (hb : b.size ≤ 3000) : m.sl.length ≤ 2000 := by
  have h1 := congrArg List.length he
  unfold encE at h1
  rw [List.length_append, size_list] at h1
  have := len_le m.sl
  omega

set_option maxHeartbeats 12800000 in
set_option maxRecDepth 100000 in
theorem walk (m : M) (b : ByteArray) (w : World) (hd : DRow w m.la m.ll) (hs : SRow w m.sa m.sl) (hm : b.size ≤ maxLen) :
    Calls Try.prog 5 #[.agg m.cells, .string b] w fun r w' => r = .returned (.bool true) ∧ Below w.heap.size w w' := by
  unfold maxLen at hm
  by_cases hf : Few.fewB m = true
  rotate_left
  · have hf : Few.fewB m = false := by simpa using hf
    go_enter Try.func5, Try.ntmps5
    go_upto_region 1 with fail
    have B0 := Lib.hid (Bx.new w m)
    have HB := Lib.hid (balloc (Below.refl _ w) (.cells m.cells 25))
    have PF := Lib.hid (Few.few_any m (w.alloc (.cells m.cells 25)) (hd.below HB.out) (hs.below HB.out))
    clear hd hs
    generalize w.alloc (.cells m.cells 25) = V at *
    rw [hf] at PF
    clear hf
    go_wp2_with (first | (refine wpList_loadM (b := w.heap.size) (m := m) rfl _ rfl rfl B0.out ?_))
    refine (PF.out).mono ?_
    rintro r w1 ⟨rfl, hb⟩
    have B0 := Lib.hid (B0.out.below hb)
    have HB := Lib.hid (bcall HB.out hb)
    clear hb PF
    go_wp2_with fail
    refine (awake_any _).mono ?_
    rintro r w2 ⟨rfl, hb⟩
    have HB := Lib.hid (bcall HB.out hb)
    clear hb
    go_wp2
    go_ret
    exact ⟨rfl, HB.out⟩
  by_cases hs3 : 3000 < b.size
  · have k1 : 3000 < (b.size : Int) := by omega
    go_enter Try.func5, Try.ntmps5
    go_upto_region 1 with fail
    have B0 := Lib.hid (Bx.new w m)
    have HB := Lib.hid (balloc (Below.refl _ w) (.cells m.cells 25))
    have PF := Lib.hid (Few.few_any m (w.alloc (.cells m.cells 25)) (hd.below HB.out) (hs.below HB.out))
    clear hd hs
    generalize w.alloc (.cells m.cells 25) = V at *
    rw [hf] at PF
    clear hf
    go_wp2_with (first | (refine wpList_loadM (b := w.heap.size) (m := m) rfl _ rfl rfl B0.out ?_))
    refine (PF.out).mono ?_
    rintro r w1 ⟨rfl, hb⟩
    have B0 := Lib.hid (B0.out.below hb)
    have HB := Lib.hid (bcall HB.out hb)
    clear hb PF
    go_wp2_with fail
    refine (awake_any _).mono ?_
    rintro r w2 ⟨rfl, hb⟩
    have HB := Lib.hid (bcall HB.out hb)
    clear hb
    go_wp2
    go_ret
    exact ⟨rfl, HB.out⟩
  have k1 : ¬ 3000 < (b.size : Int) := by omega
  have hi := few_in hf hd hs
  obtain ⟨_, hl, hz⟩ := few_parts hf
  have P1 := Lib.hid (fun V (h : m.In V) => Y5.put_any m V h (by omega) hz)
  have P2 := Lib.hid (fun V (h : m.In V) => Y2.right_any m V h hz)
  have HZ := Lib.hid (putE_size m hl)
  have HF := Lib.hid (Fs.new w m hi)
  have HS3 := Lib.hid (show b.size ≤ 3000 by omega)
  clear hs3 hm
  by_cases hok : okE m = true
  rotate_left
  · have hok : okE m = false := by simpa using hok
    rw [hok, putE_no hok] at P1
    rw [hok] at P2
    clear hok HZ
    go_enter Try.func5, Try.ntmps5
    go_upto_region 1 with fail
    have PF := Lib.hid (Few.few_any m (w.alloc (.cells m.cells 25)) HF.out.i.d HF.out.i.s)
    rw [hf] at PF
    clear hf hd hs hi hl hz
    generalize w.alloc (.cells m.cells 25) = V at *
    go_wp2_with (first | (refine wpList_loadM (b := w.heap.size) (m := m) rfl _ rfl rfl HF.out.m ?_))
    refine (PF.out).mono ?_
    rintro r w1 ⟨rfl, hb⟩
    have HF := Lib.hid (HF.out.call hb)
    clear hb
    go_wp2_with (first | (refine wpList_loadM (b := w.heap.size) (m := m) rfl _ rfl rfl HF.out.m ?_))
    refine (P1.out _ HF.out.i).mono ?_
    rintro r w2 ⟨rfl, hb⟩
    have HF := Lib.hid (HF.out.call hb)
    clear hb
    go_wp2_with (first | (refine wpList_loadM (b := w.heap.size) (m := m) rfl _ rfl rfl HF.out.m ?_))
    refine (P2.out _ HF.out.i).mono ?_
    rintro r w3 ⟨rfl, hb⟩
    have HF := Lib.hid (HF.out.call hb)
    clear hb
    have HB := Lib.hid HF.out.bel
    clear HF PF P1 P2
    by_cases h0 : b.size = 0
    · have k2 : (b.size : Int) = 0 := by omega
      go_wp2_with fail
      refine (awake_any _).mono ?_
      rintro r w4 ⟨rfl, hb⟩
      have HB := Lib.hid (bcall HB.out hb)
      clear hb
      go_wp2
      go_ret
      exact ⟨rfl, HB.out⟩
    have k2 : ¬ (b.size : Int) = 0 := by omega
    have i0 := idx b 0 0 rfl (by omega)
    have n0 := bt_nn b 0
    have l0 := bt_lt b 0
    by_cases h1 : bt b 0 = 3
    rotate_left
    · generalize bt b 0 = y at *
      have k3 : (y == 3) = false := by simpa using h1
      clear n0 l0
      go_wp2_with fail
      refine (awake_any _).mono ?_
      rintro r w4 ⟨rfl, hb⟩
      have HB := Lib.hid (bcall HB.out hb)
      clear hb
      go_wp2
      go_ret
      exact ⟨rfl, HB.out⟩
    rw [h1] at i0
    have P3 := Lib.hid (fun W => Y4.get_any b W (by have := HS3.out; omega))
    have HL := Lib.hid (show (outE b).1.ll.length ≤ 255 ∧ (outE b).1.sl.length ≤ 3000 from ⟨(out_parts b).1, by have := (out_parts b).2; have := HS3.out; omega⟩)
    rcases Y1.out_cases b with ⟨q1, q2, q3, q4⟩ | ⟨q1, q2, q3⟩
    · obtain ⟨⟨q, i, x⟩, hq⟩ : ∃ p, outE b = p := ⟨_, rfl⟩
      rw [hq] at P3 HL q1 q2 q3 q4
      simp only [] at q1 q2 q3 q4
      subst q2
      clear hq h1 n0 l0
      go_wp2_with fail
      refine (P3.out _).mono ?_
      intro r w4 hr
      obtain ⟨n2, rfl, hi, hp, hb⟩ := hr.at (Nat.le_trans HL.out.1 (by decide)) (Nat.le_trans HL.out.2 (by decide))
      have HB := Lib.hid (bcall HB.out hb)
      clear hr P3
      go_upto_region 13 with (refine wpList_storeM (b := w4.heap.size) (m := M.zero) (m' := n2) rfl _ _ rfl rfl rfl (Bx.new w4 M.zero) ?_)
      change Code.wp _ _ _ _ ((w4.alloc (.cells M.zero.cells 25)).setRow w4.heap.size n2.cells)
      rw [World.setRow_alloc_new]
      have I2 := Lib.hid (hi.below (balloc (Below.refl _ w4) (.cells n2.cells 25)))
      have HB := Lib.hid (balloc HB.out (.cells n2.cells 25))
      have X2 := Lib.hid (Bx.new w4 n2)
      have H2 := Lib.hid hp
      clear hi hp hb
      generalize w4.alloc (.cells n2.cells 25) = V2 at *
      generalize w4.heap.size = g2 at *
      have PS := Lib.hid (fun W h h' => RSame.rsame_any n2 M.zero W h h')
      rw [H2.out.same (Pl.refl M.zero), same_self] at PS
      go_wp2_with fail
      refine (awake_any _).mono ?_
      rintro r w5 ⟨rfl, hb⟩
      have X2 := Lib.hid (X2.out.below hb)
      have I2 := Lib.hid (I2.out.below hb)
      have HB := Lib.hid (bcall HB.out hb)
      clear hb
      go_wp2_with (first | (refine st_yes (v := .agg (M.cells n2)) (by rfl) rfl (run_loadM (x := .tmp 10) rfl rfl X2.out) ?_) | (refine st_yes (v := .agg (M.cells M.zero)) (by rfl) rfl (ex_built rfl (by kernel_rfl)) ?_))
      refine (PS.out _ I2.out ⟨DRow.nil _ _, SRow.nil _ _, Nat.zero_le _, Nat.zero_le _⟩).mono ?_
      rintro r w6 ⟨rfl, hb⟩
      have HB := Lib.hid (bcall HB.out hb)
      clear hb
      go_wp2
      go_ret
      exact ⟨rfl, HB.out⟩
    obtain ⟨q4, q5⟩ := q3 h1
    have PP := Lib.hid (fun (n : M) (hn : Pl n (outE b).1) W (h : n.In W) => Y5.put_any n W h (by rw [hn.sl]; exact subs_few q4 q5 HS3.out) (by rw [hn.sl]; exact subs_small q4))
    have PR := Lib.hid (fun (n : M) (hn : Pl n (outE b).1) W (h : n.In W) => Y2.right_any n W h (by rw [hn.sl]; exact subs_small q4))
    have HK := Lib.hid (fun (n : M) (hn : Pl n (outE b).1) => show okE n = true ∧ putE n = b by
      rw [ok_pl hn, put_pl hn, putE_yes q4]
      exact ⟨q4, text_eq (by rw [← q5])⟩)
    have hbs := bytes_same b
    obtain ⟨⟨q, i, x⟩, hq⟩ : ∃ p, outE b = p := ⟨_, rfl⟩
    rw [hq] at P3 HL q1 q2
    simp only [hq] at PP PR HK
    simp only [] at q1 q2
    subst q1 q2
    clear hq h1 n0 l0 q3 q4 q5
    go_wp2_with fail
    refine (P3.out _).mono ?_
    intro r w4 hr
    obtain ⟨n2, rfl, hi, hp, hb⟩ := hr.at (Nat.le_trans HL.out.1 (by decide)) (Nat.le_trans HL.out.2 (by decide))
    have HB := Lib.hid (bcall HB.out hb)
    clear hr P3
    go_upto_region 13 with (refine wpList_storeM (b := w4.heap.size) (m := M.zero) (m' := n2) rfl _ _ rfl rfl rfl (Bx.new w4 M.zero) ?_)
    change Code.wp _ _ _ _ ((w4.alloc (.cells M.zero.cells 25)).setRow w4.heap.size n2.cells)
    rw [World.setRow_alloc_new]
    have I2 := Lib.hid (hi.below (balloc (Below.refl _ w4) (.cells n2.cells 25)))
    have HB := Lib.hid (balloc HB.out (.cells n2.cells 25))
    have X2 := Lib.hid (Bx.new w4 n2)
    have H2 := Lib.hid hp
    clear hi hp hb
    generalize w4.alloc (.cells n2.cells 25) = V2 at *
    generalize w4.heap.size = g2 at *
    have PP := Lib.hid (PP.out n2 H2.out)
    have PR := Lib.hid (PR.out n2 H2.out)
    obtain ⟨k4, k5⟩ := HK.out n2 H2.out
    rw [k4, k5] at PP
    rw [k4] at PR
    clear k4 k5 HK
    go_wp2_with (first | (refine wpList_loadM (b := g2) (m := n2) rfl _ rfl rfl X2.out ?_))
    refine (PP.out _ I2.out).mono ?_
    rintro r w5 ⟨rfl, hb⟩
    have X2 := Lib.hid (X2.out.below hb)
    have I2 := Lib.hid (I2.out.below hb)
    have HB := Lib.hid (bcall HB.out hb)
    clear hb
    go_wp2_with fail
    refine (awake_any _).mono ?_
    rintro r w6 ⟨rfl, hb⟩
    have X2 := Lib.hid (X2.out.below hb)
    have I2 := Lib.hid (I2.out.below hb)
    have HB := Lib.hid (bcall HB.out hb)
    clear hb
    go_wp2_with (first | (refine st_yes (v := .agg (M.cells n2)) (by rfl) rfl (run_loadM (x := .tmp 10) rfl rfl X2.out) ?_))
    refine (PR.out _ I2.out).mono ?_
    rintro r w7 ⟨rfl, hb⟩
    have HB := Lib.hid (bcall HB.out hb)
    clear hb
    go_wp2
    go_ret
    exact ⟨rfl, HB.out⟩
  obtain ⟨hp1, hp2, hp3⟩ := own_parts hok
  have hn1 := ((nums_iff m).1 ((ok_iff m).1 hok).nums).n1
  have PG := Lib.hid (fun W => Y4.get_any (putE m) W (by have := HZ.out; omega))
  rw [put_out hok] at PG
  have HL := Lib.hid (show ({ ownM m with la := none, lc := 0, sa := none, sc := 0 } : M).ll.length ≤ 255 ∧ ({ ownM m with la := none, lc := 0, sa := none, sc := 0 } : M).sl.length ≤ 60 from ⟨by rw [hp1]; exact hn1, by rw [hp2]; exact hl⟩)
  have HO := Lib.hid hp3
  rw [hok] at P1 P2
  clear hp1 hp2 hp3 HZ hn1
  generalize ({ ownM m with la := none, lc := 0, sa := none, sc := 0 } : M) = km at *
  have HNE : Hid (True) := Lib.hid trivial
  generalize putE m = z at *
  clear hok
  go_enter Try.func5, Try.ntmps5
  go_upto_region 1 with fail
  have PF := Lib.hid (Few.few_any m (w.alloc (.cells m.cells 25)) HF.out.i.d HF.out.i.s)
  rw [hf] at PF
  clear hf hd hs hi hl hz
  generalize w.alloc (.cells m.cells 25) = V at *
  go_wp2_with (first | (refine wpList_loadM (b := w.heap.size) (m := m) rfl _ rfl rfl HF.out.m ?_))
  refine (PF.out).mono ?_
  rintro r w1 ⟨rfl, hb⟩
  have HF := Lib.hid (HF.out.call hb)
  clear hb
  go_wp2_with (first | (refine wpList_loadM (b := w.heap.size) (m := m) rfl _ rfl rfl HF.out.m ?_))
  refine (P1.out _ HF.out.i).mono ?_
  rintro r w2 ⟨rfl, hb⟩
  have HF := Lib.hid (HF.out.call hb)
  clear hb
  go_wp2_with (first | (refine wpList_loadM (b := w.heap.size) (m := m) rfl _ rfl rfl HF.out.m ?_))
  refine (P2.out _ HF.out.i).mono ?_
  rintro r w3 ⟨rfl, hb⟩
  have HF := Lib.hid (HF.out.call hb)
  clear hb
  have HB := Lib.hid HF.out.bel
  go_wp2_with fail
  refine (PG.out _).mono ?_
  intro r w4 hr
  obtain ⟨n1, rfl, hi, hp, hb⟩ := hr.at (Nat.le_trans HL.out.1 (by decide)) (Nat.le_trans HL.out.2 (by decide))
  have HB := Lib.hid (bcall HB.out hb)
  have HF := Lib.hid (HF.out.call hb)
  clear hr PG
  go_upto_region 8 with (refine wpList_storeM (b := w4.heap.size) (m := M.zero) (m' := n1) rfl _ _ rfl rfl rfl (Bx.new w4 M.zero) ?_)
  change Code.wp _ _ _ _ ((w4.alloc (.cells M.zero.cells 25)).setRow w4.heap.size n1.cells)
  rw [World.setRow_alloc_new]
  have HF := Lib.hid (HF.out.call (balloc (Below.refl _ w4) (.cells n1.cells 25)))
  have I1 := Lib.hid (hi.below (balloc (Below.refl _ w4) (.cells n1.cells 25)))
  have HB := Lib.hid (balloc HB.out (.cells n1.cells 25))
  have X1 := Lib.hid (Bx.new w4 n1)
  have H1 := Lib.hid hp
  clear hi hp hb
  generalize w4.alloc (.cells n1.cells 25) = V1 at *
  generalize w4.heap.size = g1 at *
  have PS := Lib.hid (fun W h h' => RSame.rsame_any m n1 W h h')
  rw [(Pl.refl m).same H1.out, HO.out] at PS
  go_wp2_with (first | (refine st_yes (v := .agg (M.cells m)) (by rfl) rfl (run_loadM (x := .tmp 2) rfl rfl HF.out.m) ?_) | (refine st_yes (v := .agg (M.cells n1)) (by rfl) rfl (run_loadM (x := .tmp 7) rfl rfl X1.out) ?_))
  refine (PS.out _ HF.out.i I1.out).mono ?_
  rintro r w5 ⟨rfl, hb⟩
  have HB := Lib.hid (bcall HB.out hb)
  clear hb
  clear HF PF P1 P2 X1 I1 H1 HO PS HL
  by_cases h0 : b.size = 0
  · have k2 : (b.size : Int) = 0 := by omega
    go_wp2_with fail
    refine (awake_any _).mono ?_
    rintro r w6 ⟨rfl, hb⟩
    have HB := Lib.hid (bcall HB.out hb)
    clear hb
    go_wp2
    go_ret
    exact ⟨rfl, HB.out⟩
  have k2 : ¬ (b.size : Int) = 0 := by omega
  have i0 := idx b 0 0 rfl (by omega)
  have n0 := bt_nn b 0
  have l0 := bt_lt b 0
  by_cases h1 : bt b 0 = 3
  rotate_left
  · generalize bt b 0 = y at *
    have k3 : (y == 3) = false := by simpa using h1
    clear n0 l0
    go_wp2_with fail
    refine (awake_any _).mono ?_
    rintro r w6 ⟨rfl, hb⟩
    have HB := Lib.hid (bcall HB.out hb)
    clear hb
    go_wp2
    go_ret
    exact ⟨rfl, HB.out⟩
  rw [h1] at i0
  have P3 := Lib.hid (fun W => Y4.get_any b W (by have := HS3.out; omega))
  have HL := Lib.hid (show (outE b).1.ll.length ≤ 255 ∧ (outE b).1.sl.length ≤ 3000 from ⟨(out_parts b).1, by have := (out_parts b).2; have := HS3.out; omega⟩)
  rcases Y1.out_cases b with ⟨q1, q2, q3, q4⟩ | ⟨q1, q2, q3⟩
  · obtain ⟨⟨q, i, x⟩, hq⟩ : ∃ p, outE b = p := ⟨_, rfl⟩
    rw [hq] at P3 HL q1 q2 q3 q4
    simp only [] at q1 q2 q3 q4
    subst q2
    clear hq h1 n0 l0
    go_wp2_with fail
    refine (P3.out _).mono ?_
    intro r w6 hr
    obtain ⟨n2, rfl, hi, hp, hb⟩ := hr.at (Nat.le_trans HL.out.1 (by decide)) (Nat.le_trans HL.out.2 (by decide))
    have HB := Lib.hid (bcall HB.out hb)
    clear hr P3
    go_upto_region 13 with (refine wpList_storeM (b := w6.heap.size) (m := M.zero) (m' := n2) rfl _ _ rfl rfl rfl (Bx.new w6 M.zero) ?_)
    change Code.wp _ _ _ _ ((w6.alloc (.cells M.zero.cells 25)).setRow w6.heap.size n2.cells)
    rw [World.setRow_alloc_new]
    have I2 := Lib.hid (hi.below (balloc (Below.refl _ w6) (.cells n2.cells 25)))
    have HB := Lib.hid (balloc HB.out (.cells n2.cells 25))
    have X2 := Lib.hid (Bx.new w6 n2)
    have H2 := Lib.hid hp
    clear hi hp hb
    generalize w6.alloc (.cells n2.cells 25) = V2 at *
    generalize w6.heap.size = g2 at *
    have PS := Lib.hid (fun W h h' => RSame.rsame_any n2 M.zero W h h')
    rw [H2.out.same (Pl.refl M.zero), same_self] at PS
    go_wp2_with fail
    refine (awake_any _).mono ?_
    rintro r w7 ⟨rfl, hb⟩
    have X2 := Lib.hid (X2.out.below hb)
    have I2 := Lib.hid (I2.out.below hb)
    have HB := Lib.hid (bcall HB.out hb)
    clear hb
    go_wp2_with (first | (refine st_yes (v := .agg (M.cells n2)) (by rfl) rfl (run_loadM (x := .tmp 10) rfl rfl X2.out) ?_) | (refine st_yes (v := .agg (M.cells M.zero)) (by rfl) rfl (ex_built rfl (by kernel_rfl)) ?_))
    refine (PS.out _ I2.out ⟨DRow.nil _ _, SRow.nil _ _, Nat.zero_le _, Nat.zero_le _⟩).mono ?_
    rintro r w8 ⟨rfl, hb⟩
    have HB := Lib.hid (bcall HB.out hb)
    clear hb
    go_wp2
    go_ret
    exact ⟨rfl, HB.out⟩
  obtain ⟨q4, q5⟩ := q3 h1
  have PP := Lib.hid (fun (n : M) (hn : Pl n (outE b).1) W (h : n.In W) => Y5.put_any n W h (by rw [hn.sl]; exact subs_few q4 q5 HS3.out) (by rw [hn.sl]; exact subs_small q4))
  have PR := Lib.hid (fun (n : M) (hn : Pl n (outE b).1) W (h : n.In W) => Y2.right_any n W h (by rw [hn.sl]; exact subs_small q4))
  have HK := Lib.hid (fun (n : M) (hn : Pl n (outE b).1) => show okE n = true ∧ putE n = b by
    rw [ok_pl hn, put_pl hn, putE_yes q4]
    exact ⟨q4, text_eq (by rw [← q5])⟩)
  have hbs := bytes_same b
  obtain ⟨⟨q, i, x⟩, hq⟩ : ∃ p, outE b = p := ⟨_, rfl⟩
  rw [hq] at P3 HL q1 q2
  simp only [hq] at PP PR HK
  simp only [] at q1 q2
  subst q1 q2
  clear hq h1 n0 l0 q3 q4 q5
  go_wp2_with fail
  refine (P3.out _).mono ?_
  intro r w6 hr
  obtain ⟨n2, rfl, hi, hp, hb⟩ := hr.at (Nat.le_trans HL.out.1 (by decide)) (Nat.le_trans HL.out.2 (by decide))
  have HB := Lib.hid (bcall HB.out hb)
  clear hr P3
  go_upto_region 13 with (refine wpList_storeM (b := w6.heap.size) (m := M.zero) (m' := n2) rfl _ _ rfl rfl rfl (Bx.new w6 M.zero) ?_)
  change Code.wp _ _ _ _ ((w6.alloc (.cells M.zero.cells 25)).setRow w6.heap.size n2.cells)
  rw [World.setRow_alloc_new]
  have I2 := Lib.hid (hi.below (balloc (Below.refl _ w6) (.cells n2.cells 25)))
  have HB := Lib.hid (balloc HB.out (.cells n2.cells 25))
  have X2 := Lib.hid (Bx.new w6 n2)
  have H2 := Lib.hid hp
  clear hi hp hb
  generalize w6.alloc (.cells n2.cells 25) = V2 at *
  generalize w6.heap.size = g2 at *
  have PP := Lib.hid (PP.out n2 H2.out)
  have PR := Lib.hid (PR.out n2 H2.out)
  obtain ⟨k4, k5⟩ := HK.out n2 H2.out
  rw [k4, k5] at PP
  rw [k4] at PR
  clear k4 k5 HK
  go_wp2_with (first | (refine wpList_loadM (b := g2) (m := n2) rfl _ rfl rfl X2.out ?_))
  refine (PP.out _ I2.out).mono ?_
  rintro r w7 ⟨rfl, hb⟩
  have X2 := Lib.hid (X2.out.below hb)
  have I2 := Lib.hid (I2.out.below hb)
  have HB := Lib.hid (bcall HB.out hb)
  clear hb
  go_wp2_with fail
  refine (awake_any _).mono ?_
  rintro r w8 ⟨rfl, hb⟩
  have X2 := Lib.hid (X2.out.below hb)
  have I2 := Lib.hid (I2.out.below hb)
  have HB := Lib.hid (bcall HB.out hb)
  clear hb
  go_wp2_with (first | (refine st_yes (v := .agg (M.cells n2)) (by rfl) rfl (run_loadM (x := .tmp 10) rfl rfl X2.out) ?_))
  refine (PR.out _ I2.out).mono ?_
  rintro r w9 ⟨rfl, hb⟩
  have HB := Lib.hid (bcall HB.out hb)
  clear hb
  go_wp2
  go_ret
  exact ⟨rfl, HB.out⟩

theorem own : ownKnob Try.prog.godebug = none := by kernel_rfl

set_option maxRecDepth 100000 in
theorem lifted (os : Os) (started : os.Started) (H : Type) (enc : TypeId × Value → H) :
    ReturnsInHanded {} Try.checked os 5 .any (Rows.rerrBackSpec.pre6 enc Try.prog Try.f5 Rows.rerrBackRow.domain false) (Rows.rerrBackSpec.post enc Try.prog Try.f5 false true false false) := by
  refine returnsInHanded_of_change (C := Try.checked) own started (by kernel_rfl) Try.func5
    (ChangeSpec.witness6 (enc := enc) (C := Try.checked) false ⟨#[], #[.agg M.zero.cells, .string ByteArray.empty], []⟩ 8 (by kernel_rfl) (by kernel_rfl) (by kernel_rfl) (by kernel_rfl)) ?_
  intro W base args ds gs before hval0 hW hcnd _
  have hval : ∀ (j : Nat) t v, Try.f5.params[j]? = some t → args[j]? = some v → Value.okWide Try.prog W .any base t v := hval0
  have hW' := hW
  have hlt := fun x hx => hW'.lt x hx
  obtain ⟨p, q, hA0, hV, rfl, hfz, hnd⟩ := hW
  have hA : DataW.TrodAll enc Try.prog W 0 (fun _ => true) true Try.f5.params.toList args.toList ds p := hA0
  rw [Try.params5] at hA hval
  obtain ⟨v0, vs0, d0, ds0, p0, q0, hargs, rfl, rfl, h0, r0⟩ := trodAll_cons hA
  obtain ⟨v1, vs1, d1, ds1, p1, q1, rfl, rfl, rfl, h1, r1⟩ := trodAll_cons r0
  obtain ⟨rfl, rfl, rfl⟩ := trodAll_nil r1
  obtain rfl : args = #[v0, v1] := by cases args; simp_all
  obtain ⟨rfl, rfl⟩ := trodVars_none hV
  obtain ⟨m, rfl, hd, hs⟩ := by_value (hval 0 25 v0 rfl rfl) h0
  have k1 := h1
  obtain ⟨b, rfl, rfl, rfl, ws⟩ := open_string Try.underlying9 (hval 1 9 v1 rfl rfl) k1
  clear hA0 hval0
  simp only [List.append_nil] at hW' hlt
  refine (walk m b W hd hs ws).mono fun e W' ⟨he, hg⟩ => ?_
  subst he
  exact ⟨_, rfl, _, _, _, [], _, [], hW', trodAll_mk1 (shut_bool Try.underlying4 _), (trodAll_cons_mk (again (by kernel_rfl) (of_decide_eq_true (by kernel_rfl)) h0 hg fun x hx => hlt x (by first | exact absurd hx (by simp) | simp [hx])) (trodAll_cons_mk (again (by kernel_rfl) (of_decide_eq_true (by kernel_rfl)) h1 hg fun x hx => hlt x (by first | exact absurd hx (by simp) | simp [hx])) trodAll_mk0)), rfl, hg.frame _, fun h => by cases h⟩

theorem over : Rows.rerrBackRow.holds Try.pinned (OpenSpec.ofChange Rows.rerrBackSpec) :=
  OpenClaim.holds_of_wide 5 Try.f5 rfl rfl rfl rfl rfl rfl rfl ⟨rfl, rfl, rfl, rfl, rfl⟩ rfl rfl rfl rfl rfl (by kernel_rfl) Try.func5 (by kernel_rfl)
    (of_decide_eq_true (by kernel_rfl)) (by unfold Func.isWrapper; first | (rw [if_pos (by decide +kernel)]; kernel_rfl) | (rw [if_neg (by decide +kernel)]; exact ⟨rfl, rfl⟩))
    (fun os started H enc _ => lifted os started H enc)

theorem proved : Rows.RerrBackSaid :=
  over
#print axioms proved
end Go.Proofs.Ytjhliffkhkgigaa.rerrBack
