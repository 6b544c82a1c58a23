/-
  The document's next hop and message: what a next hop's TLV makes, the message of an Update. Conditions: at most 100000 bytes; the Update counts.
  The document's Take: the Update that a TLV is. Condition: at most 100000 bytes.
-/
import Derived.Test.YtfegdblaohhdoaaGreatDoorB04
import Derived.Test.YtfegdblaohhdoaaGreatDoorB10
import Derived.Test.YtfegdblaohhdoaaGreatDoorB12
namespace Go.Proofs.YtfegdblaohhdoaaGreatDoor.K7
open Go.ChangeShapes Go.WideShapes Go.ChangeAt Go.RowKit
open Go.Proofs.YtfegdblaohhdoaaGreatDoor.Ms
open Go.Proofs.YtfegdblaohhdoaaGreatDoor.Box
open Go.Proofs.YtfegdblaohhdoaaGreatDoor.S1
open Go.Proofs.YtfegdblaohhdoaaGreatDoor.J1
open Go.Proofs.YtfegdblaohhdoaaGreatDoor.J2 (nil_eq nil_em size_eq)
open Go.Proofs.YtfegdblaohhdoaaGreatDoor.J4 (shU wpList_loadU wpList_storeU)
open Go.Proofs.YtfegdblaohhdoaaGreatDoor.An
open Go.Proofs.YtfegdblaohhdoaaGreatDoor.Tc
open Go.Proofs.YtfegdblaohhdoaaGreatDoor.K1
open Go.Proofs.YtfegdblaohhdoaaGreatDoor.Kb
open Go.Proofs.YtfegdblaohhdoaaGreatDoor.K2
open Go.Proofs.YtfegdblaohhdoaaGreatDoor.K3 (lgC)
open Go.Proofs.YtfegdblaohhdoaaGreatDoor.K4
open Go.Proofs.YtfegdblaohhdoaaGreatDoor.Lk (lgA lgO rlong_any)
open Go.Proofs.YtfegdblaohhdoaaGreatDoor.F1 (bt bt_nn bt_lt)
open Go.Proofs.YtfegdblaohhdoaaGreatDoor.F2 (idx sl_m sl_l)
open Go.Proofs.YtfegdblaohhdoaaGreatDoor.Hx (conv8)
open Go.Proofs.YtfegdblaohhdoaaGreatDoor.Tl (cellsT)
open Go.Proofs.YtfegdblaohhdoaaGreatDoor.Bk (Bk Sh alloc_size wpList_loadK wpList_storeK run_loadK results_pair loadVarK wpList_builtK)
open Go.Proofs.YtfegdblaohhdoaaGreatDoor.Hs
open Go.Proofs.YtfegdblaohhdoaaGreatDoor.Or (st_yes)
set_option linter.unusedVariables false
set_option maxRecDepth 100000
set_option maxRecDepth 100000
theorem len_any (x : Int) (h0 : 0 ≤ x) (h3 : x ≤ 3) (w : World) : Calls Tryz.prog 73 #[.int .i64 x] w fun e w' => e = .returned (.int .i64 (sizeA x : Int)) ∧ Below w.heap.size w w' := by
  rcases (show x = 0 ∨ x = 1 ∨ x = 2 ∨ x = 3 by omega) with rfl | rfl | rfl | rfl
  all_goals
    go_enter Tryz.func73, Tryz.ntmps73
    go_wp2
    go_ret
    exact ⟨rfl, balloc (Below.refl _ _) _⟩
theorem fixed_any (d : ByteArray) (z : Nat) (zi : Int) (hzi : zi = z) (w : World) (hs : d.size ≤ 100000) (hz : z ≤ 100) :
    Calls Tryz.prog 79 #[.string d, .int .i64 zi] w fun e w' => e = .returned (.tuple #[.bool (fixO d z).1, .int .i64 (fixO d z).2]) ∧ Below w.heap.size w w' := by
  subst hzi
  by_cases h : d.size < z
  · have HY := Lib.hid (fix_short h)
    have h2 : (d.size : Int) < (z : Int) := by omega
    go_enter Tryz.func79, Tryz.ntmps79
    go_wp2
    go_ret2
    exact ⟨by first | (rw [HY.out]; done) | (rw [HY.out]; rfl), Below.refl _ _⟩
  have h2 : ¬ (d.size : Int) < (z : Int) := by omega
  have HY := Lib.hid (fix_long h)
  have PS := Lib.hid (fun V => S6.rget_own (d.extract z d.size) V (by simp; omega))
  have slt := sl_l d (z : Int) z d.size rfl (by omega) rfl
  obtain ⟨⟨l, kn, er⟩, ho⟩ : ∃ q, outS (d.extract z d.size) = q := ⟨_, rfl⟩
  rw [ho] at PS HY
  clear ho h hs hz
  generalize d.extract z d.size = ea at *
  go_enter Tryz.func79, Tryz.ntmps79
  go_wp2_with fail
  refine (PS.out _).mono ?_
  rintro e w1 ⟨qa, qc, rfl, hl, hb⟩
  clear hl
  go_wp2
  go_ret2
  exact ⟨by first | (rw [HY.out]; done) | (rw [HY.out]; rfl), hb⟩
set_option maxHeartbeats 12800000 in
theorem hop_any (c : Kx) (d : ByteArray) (w : World) (hs : d.size ≤ 100000) :
    Calls Tryz.prog 80 #[.agg c.cells, .string d] w fun e w' => e = .returned (.tuple #[.agg (out7 c d).1.cells, .int .i64 (out7 c d).2.2]) ∧ Below w.heap.size w w' := by
  by_cases hz : d.size < 2
  · have HY := Lib.hid (show out7 c d = (c, [], 2) by unfold out7; rw [if_pos hz])
    have hz2 : (d.size : Int) < 2 := by omega
    go_enter Tryz.func80, Tryz.ntmps80
    go_upto_region 1 with fail
    change Code.wp _ _ _ _ ((w.alloc (.cells c.cells 25)).alloc (.cells Kx.zero.cells 25))
    have S0 := Lib.hid ((Bk.Bk.new 25 w c.cells).old (.cells Kx.zero.cells 25))
    have R0 := Bk.Bk.new 25 (w.alloc (.cells c.cells 25)) Kx.zero.cells
    rw [alloc_size] at R0
    have R0 := Lib.hid R0
    have HB := Lib.hid (balloc (balloc (Below.refl _ w) (.cells c.cells 25)) (.cells Kx.zero.cells 25))
    generalize (w.alloc (.cells c.cells 25)).alloc (.cells Kx.zero.cells 25) = W at *
    go_wp2_with (first | (refine wpList_loadX (b := w.heap.size) (m := c) rfl _ rfl rfl S0.out ?_) | (refine wpList_storeX (b := w.heap.size + 1) (m := Kx.zero) (m' := c) rfl _ _ rfl rfl rfl R0.out ?_))
    exact bodyPost_ret (v := .tuple #[.agg (Kx.cells c), .int .i64 2]) (results_pair rfl _ _ (w.heap.size + 1) _ rfl (loadVarK shX (R0.out.put (Kx.cells c)) rfl) (.int .i64 2) rfl) rfl ⟨by first | (rw [HY.out]; done) | (rw [HY.out]; rfl), Box.below_setRow HB.out (by omega) _⟩
  have hz2 : ¬ (d.size : Int) < 2 := by omega
  have i0 := idx d 0 0 rfl (by omega)
  have b0 := bt_nn d 0
  have b1 := bt_lt d 0
  have v0 := conv8 (bt d 0) b0 b1
  by_cases hn : bt d 0 = 0
  · have HY := Lib.hid (show out7 c d = (c, [], 0) by unfold out7; rw [if_neg hz, if_pos (.inl hn)])
    rw [hn] at i0 v0
    clear hn hz hs b0 b1
    go_enter Tryz.func80, Tryz.ntmps80
    go_upto_region 1 with fail
    change Code.wp _ _ _ _ ((w.alloc (.cells c.cells 25)).alloc (.cells Kx.zero.cells 25))
    have S0 := Lib.hid ((Bk.Bk.new 25 w c.cells).old (.cells Kx.zero.cells 25))
    have R0 := Bk.Bk.new 25 (w.alloc (.cells c.cells 25)) Kx.zero.cells
    rw [alloc_size] at R0
    have R0 := Lib.hid R0
    have HB := Lib.hid (balloc (balloc (Below.refl _ w) (.cells c.cells 25)) (.cells Kx.zero.cells 25))
    generalize (w.alloc (.cells c.cells 25)).alloc (.cells Kx.zero.cells 25) = W at *
    go_wp2_with (first | (refine wpList_loadX (b := w.heap.size) (m := c) rfl _ rfl rfl S0.out ?_) | (refine wpList_storeX (b := w.heap.size + 1) (m := Kx.zero) (m' := c) rfl _ _ rfl rfl rfl R0.out ?_))
    exact bodyPost_ret (v := .tuple #[.agg (Kx.cells c), .int .i64 0]) (results_pair rfl _ _ (w.heap.size + 1) _ rfl (loadVarK shX (R0.out.put (Kx.cells c)) rfl) (.int .i64 0) rfl) rfl ⟨by first | (rw [HY.out]; done) | (rw [HY.out]; rfl), Box.below_setRow HB.out (by omega) _⟩
  have hn0 : (bt d 0 == 0) = false := by simpa using hn
  by_cases hn3 : 3 < bt d 0
  · have HY := Lib.hid (show out7 c d = (c, [], 0) by unfold out7; rw [if_neg hz, if_pos (.inr hn3)])
    clear hn hz hs b0 b1
    generalize bt d 0 = y0 at *
    go_enter Tryz.func80, Tryz.ntmps80
    go_upto_region 1 with fail
    change Code.wp _ _ _ _ ((w.alloc (.cells c.cells 25)).alloc (.cells Kx.zero.cells 25))
    have S0 := Lib.hid ((Bk.Bk.new 25 w c.cells).old (.cells Kx.zero.cells 25))
    have R0 := Bk.Bk.new 25 (w.alloc (.cells c.cells 25)) Kx.zero.cells
    rw [alloc_size] at R0
    have R0 := Lib.hid R0
    have HB := Lib.hid (balloc (balloc (Below.refl _ w) (.cells c.cells 25)) (.cells Kx.zero.cells 25))
    generalize (w.alloc (.cells c.cells 25)).alloc (.cells Kx.zero.cells 25) = W at *
    go_wp2_with (first | (refine wpList_loadX (b := w.heap.size) (m := c) rfl _ rfl rfl S0.out ?_) | (refine wpList_storeX (b := w.heap.size + 1) (m := Kx.zero) (m' := c) rfl _ _ rfl rfl rfl R0.out ?_))
    exact bodyPost_ret (v := .tuple #[.agg (Kx.cells c), .int .i64 0]) (results_pair rfl _ _ (w.heap.size + 1) _ rfl (loadVarK shX (R0.out.put (Kx.cells c)) rfl) (.int .i64 0) rfl) rfl ⟨by first | (rw [HY.out]; done) | (rw [HY.out]; rfl), Box.below_setRow HB.out (by omega) _⟩
  rcases (show bt d 0 = 1 ∨ bt d 0 = 2 ∨ bt d 0 = 3 by omega) with e | e | e
  · have HY0 := Lib.hid (show out7 c d = if (fixO d 6).2 = 0 ∧ (fixO d 6).1 = true then ({ c with n0 := lgC 1 (d.extract 2 6) }, [], 0) else (c, [], (fixO d 6).2) from by
      unfold out7
      rw [if_neg hz, if_neg (by omega), e]
      rfl)
    have PL := Lib.hid (fun V => len_any 1 (by decide) (by decide) V)
    have PL := Lib.hid (show ∀ V, Calls Tryz.prog 73 #[.int .i64 1] V fun e w' => e = .returned (.int .i64 4) ∧ Below V.heap.size V w' from PL.out)
    have PX := Lib.hid (fun V => fixed_any d 6 6 rfl V hs (by decide))
    have hfs := fix_short (d := d) (z := 6)
    obtain ⟨⟨kn, er⟩, ho⟩ : ∃ q, fixO d 6 = q := ⟨_, rfl⟩
    rw [ho] at PX HY0 hfs
    rw [e] at i0 v0
    by_cases he : er = 0
    rotate_left
    · have HY := Lib.hid (HY0.out.trans (if_neg (fun h => he h.1)))
      have e1 : (er == 0) = false := by simpa using he
      have e2 : (er != 0) = true := by rw [bne, e1]; rfl
      clear he
      clear HY0 hfs ho hn hn0 hn3 hz hs b0 b1 e
      go_enter Tryz.func80, Tryz.ntmps80
      go_upto_region 1 with fail
      change Code.wp _ _ _ _ ((w.alloc (.cells c.cells 25)).alloc (.cells Kx.zero.cells 25))
      have S0 := Lib.hid ((Bk.Bk.new 25 w c.cells).old (.cells Kx.zero.cells 25))
      have R0 := Bk.Bk.new 25 (w.alloc (.cells c.cells 25)) Kx.zero.cells
      rw [alloc_size] at R0
      have R0 := Lib.hid R0
      have HB := Lib.hid (balloc (balloc (Below.refl _ w) (.cells c.cells 25)) (.cells Kx.zero.cells 25))
      generalize (w.alloc (.cells c.cells 25)).alloc (.cells Kx.zero.cells 25) = W at *
      go_wp2_with fail
      refine (PL.out _).mono ?_
      rintro r w1 ⟨rfl, hb⟩
      have S0 := Lib.hid (S0.out.below hb)
      have R0 := Lib.hid (R0.out.below hb)
      have HB := Lib.hid (bcall HB.out hb)
      clear hb
      go_wp2_with fail
      refine (PX.out _).mono ?_
      rintro r w2 ⟨rfl, hb⟩
      have S0 := Lib.hid (S0.out.below hb)
      have R0 := Lib.hid (R0.out.below hb)
      have HB := Lib.hid (bcall HB.out hb)
      clear hb
      go_wp2_with (first | (refine wpList_loadX (b := w.heap.size) (m := c) rfl _ rfl rfl S0.out ?_) | (refine wpList_storeX (b := w.heap.size + 1) (m := Kx.zero) (m' := c) rfl _ _ rfl rfl rfl R0.out ?_))
      exact bodyPost_ret (v := .tuple #[.agg (Kx.cells c), .int .i64 er]) (results_pair rfl _ _ (w.heap.size + 1) _ rfl (loadVarK shX (R0.out.put (Kx.cells c)) rfl) (.int .i64 er) rfl) rfl ⟨by first | (rw [HY.out]; done) | (rw [HY.out]; rfl), Box.below_setRow HB.out (by omega) _⟩
    subst he
    cases kn with
    | false =>
      have HY := Lib.hid (HY0.out.trans (if_neg (fun h => by cases h.2)))
      clear HY0 hfs ho hn hn0 hn3 hz hs b0 b1 e
      go_enter Tryz.func80, Tryz.ntmps80
      go_upto_region 1 with fail
      change Code.wp _ _ _ _ ((w.alloc (.cells c.cells 25)).alloc (.cells Kx.zero.cells 25))
      have S0 := Lib.hid ((Bk.Bk.new 25 w c.cells).old (.cells Kx.zero.cells 25))
      have R0 := Bk.Bk.new 25 (w.alloc (.cells c.cells 25)) Kx.zero.cells
      rw [alloc_size] at R0
      have R0 := Lib.hid R0
      have HB := Lib.hid (balloc (balloc (Below.refl _ w) (.cells c.cells 25)) (.cells Kx.zero.cells 25))
      generalize (w.alloc (.cells c.cells 25)).alloc (.cells Kx.zero.cells 25) = W at *
      go_wp2_with fail
      refine (PL.out _).mono ?_
      rintro r w1 ⟨rfl, hb⟩
      have S0 := Lib.hid (S0.out.below hb)
      have R0 := Lib.hid (R0.out.below hb)
      have HB := Lib.hid (bcall HB.out hb)
      clear hb
      go_wp2_with fail
      refine (PX.out _).mono ?_
      rintro r w2 ⟨rfl, hb⟩
      have S0 := Lib.hid (S0.out.below hb)
      have R0 := Lib.hid (R0.out.below hb)
      have HB := Lib.hid (bcall HB.out hb)
      clear hb
      go_wp2_with (first | (refine wpList_loadX (b := w.heap.size) (m := c) rfl _ rfl rfl S0.out ?_) | (refine wpList_storeX (b := w.heap.size + 1) (m := Kx.zero) (m' := c) rfl _ _ rfl rfl rfl R0.out ?_))
      exact bodyPost_ret (v := .tuple #[.agg (Kx.cells c), .int .i64 0]) (results_pair rfl _ _ (w.heap.size + 1) _ rfl (loadVarK shX (R0.out.put (Kx.cells c)) rfl) (.int .i64 0) rfl) rfl ⟨by first | (rw [HY.out]; done) | (rw [HY.out]; rfl), Box.below_setRow HB.out (by omega) _⟩
    | true =>
      have HY := Lib.hid (HY0.out.trans (if_pos ⟨rfl, rfl⟩))
      have hzz : 6 ≤ d.size := by
        by_cases h : d.size < 6
        · have := hfs h
          cases this
        · omega
      have sla := sl_m d 2 6 2 6 rfl rfl (by omega) (by omega)
      have HG := Lib.hid (show lgC 1 (d.extract 2 6) = d.extract 2 6 from rfl)
      rw [HG.out] at HY
      clear HG
      generalize d.extract 2 6 = eb at *
      have PF := Lib.hid (fun V => rfam_any 1 V)
      have PF := Lib.hid (show ∀ V, Calls Tryz.prog 21 #[.int .i64 1] V fun e w' => e = .returned (.int .i64 0) ∧ V = w' from PF.out)
      clear HY0 hfs ho hn hn0 hn3 hz hs b0 b1 e
      clear hzz
      go_enter Tryz.func80, Tryz.ntmps80
      go_upto_region 1 with fail
      change Code.wp _ _ _ _ ((w.alloc (.cells c.cells 25)).alloc (.cells Kx.zero.cells 25))
      have S0 := Lib.hid ((Bk.Bk.new 25 w c.cells).old (.cells Kx.zero.cells 25))
      have R0 := Bk.Bk.new 25 (w.alloc (.cells c.cells 25)) Kx.zero.cells
      rw [alloc_size] at R0
      have R0 := Lib.hid R0
      have HB := Lib.hid (balloc (balloc (Below.refl _ w) (.cells c.cells 25)) (.cells Kx.zero.cells 25))
      generalize (w.alloc (.cells c.cells 25)).alloc (.cells Kx.zero.cells 25) = W at *
      go_wp2_with fail
      refine (PL.out _).mono ?_
      rintro r w1 ⟨rfl, hb⟩
      have S0 := Lib.hid (S0.out.below hb)
      have R0 := Lib.hid (R0.out.below hb)
      have HB := Lib.hid (bcall HB.out hb)
      clear hb
      go_wp2_with fail
      refine (PX.out _).mono ?_
      rintro r w2 ⟨rfl, hb⟩
      have S0 := Lib.hid (S0.out.below hb)
      have R0 := Lib.hid (R0.out.below hb)
      have HB := Lib.hid (bcall HB.out hb)
      clear hb
      go_wp2_with fail
      refine (PF.out _).mono ?_
      rintro r w' ⟨rfl, rfl⟩
      have d0 := S0.out.cell 4 _ rfl
      have fd := S0.out.frozen 4
      go_upto_region 14 with fail
      have XS := S0.out.set (i := 4) (v := .string eb) (cs' := Kx.cells { c with n0 := eb }) rfl
      have XR := R0.out.off (p := ⟨w.heap.size, 4, none⟩) (by show w.heap.size + 1 ≠ w.heap.size; omega) (.string eb)
      have XB := HB.out.setCell (p := ⟨w.heap.size, 4, none⟩) (by show w.heap.size ≤ w.heap.size; omega) (.string eb)
      have S0 := Lib.hid XS
      have R0 := Lib.hid XR
      have HB := Lib.hid XB
      clear XS XR XB d0 fd
      generalize World.setCell _ ⟨w.heap.size, 4, none⟩ (.string eb) = W2 at *
      go_wp2_with (first | (refine wpList_loadX (b := w.heap.size) (m := ({ c with n0 := eb } : Kx)) rfl _ rfl rfl S0.out ?_) | (refine wpList_storeX (b := w.heap.size + 1) (m := Kx.zero) (m' := ({ c with n0 := eb } : Kx)) rfl _ _ rfl rfl rfl R0.out ?_))
      exact bodyPost_ret (v := .tuple #[.agg (Kx.cells ({ c with n0 := eb } : Kx)), .int .i64 0]) (results_pair rfl _ _ (w.heap.size + 1) _ rfl (loadVarK shX (R0.out.put (Kx.cells ({ c with n0 := eb } : Kx))) rfl) (.int .i64 0) rfl) rfl ⟨by first | (rw [HY.out]; done) | (rw [HY.out]; rfl), Box.below_setRow HB.out (by omega) _⟩
  · have HY0 := Lib.hid (show out7 c d = if (fixO d 18).2 = 0 ∧ (fixO d 18).1 = true then ({ c with n1 := lgC 2 (d.extract 2 18) }, [], 0) else (c, [], (fixO d 18).2) from by
      unfold out7
      rw [if_neg hz, if_neg (by omega), e]
      rfl)
    have PL := Lib.hid (fun V => len_any 2 (by decide) (by decide) V)
    have PL := Lib.hid (show ∀ V, Calls Tryz.prog 73 #[.int .i64 2] V fun e w' => e = .returned (.int .i64 16) ∧ Below V.heap.size V w' from PL.out)
    have PX := Lib.hid (fun V => fixed_any d 18 18 rfl V hs (by decide))
    have hfs := fix_short (d := d) (z := 18)
    obtain ⟨⟨kn, er⟩, ho⟩ : ∃ q, fixO d 18 = q := ⟨_, rfl⟩
    rw [ho] at PX HY0 hfs
    rw [e] at i0 v0
    by_cases he : er = 0
    rotate_left
    · have HY := Lib.hid (HY0.out.trans (if_neg (fun h => he h.1)))
      have e1 : (er == 0) = false := by simpa using he
      have e2 : (er != 0) = true := by rw [bne, e1]; rfl
      clear he
      clear HY0 hfs ho hn hn0 hn3 hz hs b0 b1 e
      go_enter Tryz.func80, Tryz.ntmps80
      go_upto_region 1 with fail
      change Code.wp _ _ _ _ ((w.alloc (.cells c.cells 25)).alloc (.cells Kx.zero.cells 25))
      have S0 := Lib.hid ((Bk.Bk.new 25 w c.cells).old (.cells Kx.zero.cells 25))
      have R0 := Bk.Bk.new 25 (w.alloc (.cells c.cells 25)) Kx.zero.cells
      rw [alloc_size] at R0
      have R0 := Lib.hid R0
      have HB := Lib.hid (balloc (balloc (Below.refl _ w) (.cells c.cells 25)) (.cells Kx.zero.cells 25))
      generalize (w.alloc (.cells c.cells 25)).alloc (.cells Kx.zero.cells 25) = W at *
      go_wp2_with fail
      refine (PL.out _).mono ?_
      rintro r w1 ⟨rfl, hb⟩
      have S0 := Lib.hid (S0.out.below hb)
      have R0 := Lib.hid (R0.out.below hb)
      have HB := Lib.hid (bcall HB.out hb)
      clear hb
      go_wp2_with fail
      refine (PX.out _).mono ?_
      rintro r w2 ⟨rfl, hb⟩
      have S0 := Lib.hid (S0.out.below hb)
      have R0 := Lib.hid (R0.out.below hb)
      have HB := Lib.hid (bcall HB.out hb)
      clear hb
      go_wp2_with (first | (refine wpList_loadX (b := w.heap.size) (m := c) rfl _ rfl rfl S0.out ?_) | (refine wpList_storeX (b := w.heap.size + 1) (m := Kx.zero) (m' := c) rfl _ _ rfl rfl rfl R0.out ?_))
      exact bodyPost_ret (v := .tuple #[.agg (Kx.cells c), .int .i64 er]) (results_pair rfl _ _ (w.heap.size + 1) _ rfl (loadVarK shX (R0.out.put (Kx.cells c)) rfl) (.int .i64 er) rfl) rfl ⟨by first | (rw [HY.out]; done) | (rw [HY.out]; rfl), Box.below_setRow HB.out (by omega) _⟩
    subst he
    cases kn with
    | false =>
      have HY := Lib.hid (HY0.out.trans (if_neg (fun h => by cases h.2)))
      clear HY0 hfs ho hn hn0 hn3 hz hs b0 b1 e
      go_enter Tryz.func80, Tryz.ntmps80
      go_upto_region 1 with fail
      change Code.wp _ _ _ _ ((w.alloc (.cells c.cells 25)).alloc (.cells Kx.zero.cells 25))
      have S0 := Lib.hid ((Bk.Bk.new 25 w c.cells).old (.cells Kx.zero.cells 25))
      have R0 := Bk.Bk.new 25 (w.alloc (.cells c.cells 25)) Kx.zero.cells
      rw [alloc_size] at R0
      have R0 := Lib.hid R0
      have HB := Lib.hid (balloc (balloc (Below.refl _ w) (.cells c.cells 25)) (.cells Kx.zero.cells 25))
      generalize (w.alloc (.cells c.cells 25)).alloc (.cells Kx.zero.cells 25) = W at *
      go_wp2_with fail
      refine (PL.out _).mono ?_
      rintro r w1 ⟨rfl, hb⟩
      have S0 := Lib.hid (S0.out.below hb)
      have R0 := Lib.hid (R0.out.below hb)
      have HB := Lib.hid (bcall HB.out hb)
      clear hb
      go_wp2_with fail
      refine (PX.out _).mono ?_
      rintro r w2 ⟨rfl, hb⟩
      have S0 := Lib.hid (S0.out.below hb)
      have R0 := Lib.hid (R0.out.below hb)
      have HB := Lib.hid (bcall HB.out hb)
      clear hb
      go_wp2_with (first | (refine wpList_loadX (b := w.heap.size) (m := c) rfl _ rfl rfl S0.out ?_) | (refine wpList_storeX (b := w.heap.size + 1) (m := Kx.zero) (m' := c) rfl _ _ rfl rfl rfl R0.out ?_))
      exact bodyPost_ret (v := .tuple #[.agg (Kx.cells c), .int .i64 0]) (results_pair rfl _ _ (w.heap.size + 1) _ rfl (loadVarK shX (R0.out.put (Kx.cells c)) rfl) (.int .i64 0) rfl) rfl ⟨by first | (rw [HY.out]; done) | (rw [HY.out]; rfl), Box.below_setRow HB.out (by omega) _⟩
    | true =>
      have HY := Lib.hid (HY0.out.trans (if_pos ⟨rfl, rfl⟩))
      have hzz : 18 ≤ d.size := by
        by_cases h : d.size < 18
        · have := hfs h
          cases this
        · omega
      have sla := sl_m d 2 18 2 18 rfl rfl (by omega) (by omega)
      have HG := Lib.hid (show lgC 2 (d.extract 2 18) = d.extract 2 18 from rfl)
      rw [HG.out] at HY
      clear HG
      generalize d.extract 2 18 = eb at *
      have PF := Lib.hid (fun V => rfam_any 2 V)
      have PF := Lib.hid (show ∀ V, Calls Tryz.prog 21 #[.int .i64 2] V fun e w' => e = .returned (.int .i64 1) ∧ V = w' from PF.out)
      clear HY0 hfs ho hn hn0 hn3 hz hs b0 b1 e
      clear hzz
      go_enter Tryz.func80, Tryz.ntmps80
      go_upto_region 1 with fail
      change Code.wp _ _ _ _ ((w.alloc (.cells c.cells 25)).alloc (.cells Kx.zero.cells 25))
      have S0 := Lib.hid ((Bk.Bk.new 25 w c.cells).old (.cells Kx.zero.cells 25))
      have R0 := Bk.Bk.new 25 (w.alloc (.cells c.cells 25)) Kx.zero.cells
      rw [alloc_size] at R0
      have R0 := Lib.hid R0
      have HB := Lib.hid (balloc (balloc (Below.refl _ w) (.cells c.cells 25)) (.cells Kx.zero.cells 25))
      generalize (w.alloc (.cells c.cells 25)).alloc (.cells Kx.zero.cells 25) = W at *
      go_wp2_with fail
      refine (PL.out _).mono ?_
      rintro r w1 ⟨rfl, hb⟩
      have S0 := Lib.hid (S0.out.below hb)
      have R0 := Lib.hid (R0.out.below hb)
      have HB := Lib.hid (bcall HB.out hb)
      clear hb
      go_wp2_with fail
      refine (PX.out _).mono ?_
      rintro r w2 ⟨rfl, hb⟩
      have S0 := Lib.hid (S0.out.below hb)
      have R0 := Lib.hid (R0.out.below hb)
      have HB := Lib.hid (bcall HB.out hb)
      clear hb
      go_wp2_with fail
      refine (PF.out _).mono ?_
      rintro r w' ⟨rfl, rfl⟩
      have d0 := S0.out.cell 5 _ rfl
      have fd := S0.out.frozen 5
      go_upto_region 14 with fail
      have XS := S0.out.set (i := 5) (v := .string eb) (cs' := Kx.cells { c with n1 := eb }) rfl
      have XR := R0.out.off (p := ⟨w.heap.size, 5, none⟩) (by show w.heap.size + 1 ≠ w.heap.size; omega) (.string eb)
      have XB := HB.out.setCell (p := ⟨w.heap.size, 5, none⟩) (by show w.heap.size ≤ w.heap.size; omega) (.string eb)
      have S0 := Lib.hid XS
      have R0 := Lib.hid XR
      have HB := Lib.hid XB
      clear XS XR XB d0 fd
      generalize World.setCell _ ⟨w.heap.size, 5, none⟩ (.string eb) = W2 at *
      go_wp2_with (first | (refine wpList_loadX (b := w.heap.size) (m := ({ c with n1 := eb } : Kx)) rfl _ rfl rfl S0.out ?_) | (refine wpList_storeX (b := w.heap.size + 1) (m := Kx.zero) (m' := ({ c with n1 := eb } : Kx)) rfl _ _ rfl rfl rfl R0.out ?_))
      exact bodyPost_ret (v := .tuple #[.agg (Kx.cells ({ c with n1 := eb } : Kx)), .int .i64 0]) (results_pair rfl _ _ (w.heap.size + 1) _ rfl (loadVarK shX (R0.out.put (Kx.cells ({ c with n1 := eb } : Kx))) rfl) (.int .i64 0) rfl) rfl ⟨by first | (rw [HY.out]; done) | (rw [HY.out]; rfl), Box.below_setRow HB.out (by omega) _⟩
  · have HY0 := Lib.hid (show out7 c d = if (fixO d 10).2 = 0 ∧ (fixO d 10).1 = true then ({ c with n1 := lgC 3 (d.extract 2 10) }, [], 0) else (c, [], (fixO d 10).2) from by
      unfold out7
      rw [if_neg hz, if_neg (by omega), e]
      rfl)
    have PL := Lib.hid (fun V => len_any 3 (by decide) (by decide) V)
    have PL := Lib.hid (show ∀ V, Calls Tryz.prog 73 #[.int .i64 3] V fun e w' => e = .returned (.int .i64 8) ∧ Below V.heap.size V w' from PL.out)
    have PX := Lib.hid (fun V => fixed_any d 10 10 rfl V hs (by decide))
    have hfs := fix_short (d := d) (z := 10)
    obtain ⟨⟨kn, er⟩, ho⟩ : ∃ q, fixO d 10 = q := ⟨_, rfl⟩
    rw [ho] at PX HY0 hfs
    rw [e] at i0 v0
    by_cases he : er = 0
    rotate_left
    · have HY := Lib.hid (HY0.out.trans (if_neg (fun h => he h.1)))
      have e1 : (er == 0) = false := by simpa using he
      have e2 : (er != 0) = true := by rw [bne, e1]; rfl
      clear he
      clear HY0 hfs ho hn hn0 hn3 hz hs b0 b1 e
      go_enter Tryz.func80, Tryz.ntmps80
      go_upto_region 1 with fail
      change Code.wp _ _ _ _ ((w.alloc (.cells c.cells 25)).alloc (.cells Kx.zero.cells 25))
      have S0 := Lib.hid ((Bk.Bk.new 25 w c.cells).old (.cells Kx.zero.cells 25))
      have R0 := Bk.Bk.new 25 (w.alloc (.cells c.cells 25)) Kx.zero.cells
      rw [alloc_size] at R0
      have R0 := Lib.hid R0
      have HB := Lib.hid (balloc (balloc (Below.refl _ w) (.cells c.cells 25)) (.cells Kx.zero.cells 25))
      generalize (w.alloc (.cells c.cells 25)).alloc (.cells Kx.zero.cells 25) = W at *
      go_wp2_with fail
      refine (PL.out _).mono ?_
      rintro r w1 ⟨rfl, hb⟩
      have S0 := Lib.hid (S0.out.below hb)
      have R0 := Lib.hid (R0.out.below hb)
      have HB := Lib.hid (bcall HB.out hb)
      clear hb
      go_wp2_with fail
      refine (PX.out _).mono ?_
      rintro r w2 ⟨rfl, hb⟩
      have S0 := Lib.hid (S0.out.below hb)
      have R0 := Lib.hid (R0.out.below hb)
      have HB := Lib.hid (bcall HB.out hb)
      clear hb
      go_wp2_with (first | (refine wpList_loadX (b := w.heap.size) (m := c) rfl _ rfl rfl S0.out ?_) | (refine wpList_storeX (b := w.heap.size + 1) (m := Kx.zero) (m' := c) rfl _ _ rfl rfl rfl R0.out ?_))
      exact bodyPost_ret (v := .tuple #[.agg (Kx.cells c), .int .i64 er]) (results_pair rfl _ _ (w.heap.size + 1) _ rfl (loadVarK shX (R0.out.put (Kx.cells c)) rfl) (.int .i64 er) rfl) rfl ⟨by first | (rw [HY.out]; done) | (rw [HY.out]; rfl), Box.below_setRow HB.out (by omega) _⟩
    subst he
    cases kn with
    | false =>
      have HY := Lib.hid (HY0.out.trans (if_neg (fun h => by cases h.2)))
      clear HY0 hfs ho hn hn0 hn3 hz hs b0 b1 e
      go_enter Tryz.func80, Tryz.ntmps80
      go_upto_region 1 with fail
      change Code.wp _ _ _ _ ((w.alloc (.cells c.cells 25)).alloc (.cells Kx.zero.cells 25))
      have S0 := Lib.hid ((Bk.Bk.new 25 w c.cells).old (.cells Kx.zero.cells 25))
      have R0 := Bk.Bk.new 25 (w.alloc (.cells c.cells 25)) Kx.zero.cells
      rw [alloc_size] at R0
      have R0 := Lib.hid R0
      have HB := Lib.hid (balloc (balloc (Below.refl _ w) (.cells c.cells 25)) (.cells Kx.zero.cells 25))
      generalize (w.alloc (.cells c.cells 25)).alloc (.cells Kx.zero.cells 25) = W at *
      go_wp2_with fail
      refine (PL.out _).mono ?_
      rintro r w1 ⟨rfl, hb⟩
      have S0 := Lib.hid (S0.out.below hb)
      have R0 := Lib.hid (R0.out.below hb)
      have HB := Lib.hid (bcall HB.out hb)
      clear hb
      go_wp2_with fail
      refine (PX.out _).mono ?_
      rintro r w2 ⟨rfl, hb⟩
      have S0 := Lib.hid (S0.out.below hb)
      have R0 := Lib.hid (R0.out.below hb)
      have HB := Lib.hid (bcall HB.out hb)
      clear hb
      go_wp2_with (first | (refine wpList_loadX (b := w.heap.size) (m := c) rfl _ rfl rfl S0.out ?_) | (refine wpList_storeX (b := w.heap.size + 1) (m := Kx.zero) (m' := c) rfl _ _ rfl rfl rfl R0.out ?_))
      exact bodyPost_ret (v := .tuple #[.agg (Kx.cells c), .int .i64 0]) (results_pair rfl _ _ (w.heap.size + 1) _ rfl (loadVarK shX (R0.out.put (Kx.cells c)) rfl) (.int .i64 0) rfl) rfl ⟨by first | (rw [HY.out]; done) | (rw [HY.out]; rfl), Box.below_setRow HB.out (by omega) _⟩
    | true =>
      have HY := Lib.hid (HY0.out.trans (if_pos ⟨rfl, rfl⟩))
      have hzz : 10 ≤ d.size := by
        by_cases h : d.size < 10
        · have := hfs h
          cases this
        · omega
      have sla := sl_m d 2 10 2 10 rfl rfl (by omega) (by omega)
      have PG := Lib.hid (fun V => rlong_any (d.extract 2 10) V)
      have HG := Lib.hid (show lgA (d.extract 2 10) = lgC 3 (d.extract 2 10) from rfl)
      rw [HG.out] at PG
      clear HG
      generalize d.extract 2 10 = es at *
      generalize lgC 3 es = eb at *
      have PF := Lib.hid (fun V => rfam_any 3 V)
      have PF := Lib.hid (show ∀ V, Calls Tryz.prog 21 #[.int .i64 3] V fun e w' => e = .returned (.int .i64 1) ∧ V = w' from PF.out)
      clear HY0 hfs ho hn hn0 hn3 hz hs b0 b1 e
      clear hzz
      go_enter Tryz.func80, Tryz.ntmps80
      go_upto_region 1 with fail
      change Code.wp _ _ _ _ ((w.alloc (.cells c.cells 25)).alloc (.cells Kx.zero.cells 25))
      have S0 := Lib.hid ((Bk.Bk.new 25 w c.cells).old (.cells Kx.zero.cells 25))
      have R0 := Bk.Bk.new 25 (w.alloc (.cells c.cells 25)) Kx.zero.cells
      rw [alloc_size] at R0
      have R0 := Lib.hid R0
      have HB := Lib.hid (balloc (balloc (Below.refl _ w) (.cells c.cells 25)) (.cells Kx.zero.cells 25))
      generalize (w.alloc (.cells c.cells 25)).alloc (.cells Kx.zero.cells 25) = W at *
      go_wp2_with fail
      refine (PL.out _).mono ?_
      rintro r w1 ⟨rfl, hb⟩
      have S0 := Lib.hid (S0.out.below hb)
      have R0 := Lib.hid (R0.out.below hb)
      have HB := Lib.hid (bcall HB.out hb)
      clear hb
      go_wp2_with fail
      refine (PX.out _).mono ?_
      rintro r w2 ⟨rfl, hb⟩
      have S0 := Lib.hid (S0.out.below hb)
      have R0 := Lib.hid (R0.out.below hb)
      have HB := Lib.hid (bcall HB.out hb)
      clear hb
      go_wp2_with fail
      refine (PG.out _).mono ?_
      rintro r w3 ⟨rfl, hb⟩
      have S0 := Lib.hid (S0.out.below hb)
      have R0 := Lib.hid (R0.out.below hb)
      have HB := Lib.hid (bcall HB.out hb)
      clear hb
      go_wp2_with fail
      refine (PF.out _).mono ?_
      rintro r w' ⟨rfl, rfl⟩
      have d0 := S0.out.cell 5 _ rfl
      have fd := S0.out.frozen 5
      go_upto_region 14 with fail
      have XS := S0.out.set (i := 5) (v := .string eb) (cs' := Kx.cells { c with n1 := eb }) rfl
      have XR := R0.out.off (p := ⟨w.heap.size, 5, none⟩) (by show w.heap.size + 1 ≠ w.heap.size; omega) (.string eb)
      have XB := HB.out.setCell (p := ⟨w.heap.size, 5, none⟩) (by show w.heap.size ≤ w.heap.size; omega) (.string eb)
      have S0 := Lib.hid XS
      have R0 := Lib.hid XR
      have HB := Lib.hid XB
      clear XS XR XB d0 fd
      generalize World.setCell _ ⟨w.heap.size, 5, none⟩ (.string eb) = W2 at *
      go_wp2_with (first | (refine wpList_loadX (b := w.heap.size) (m := ({ c with n1 := eb } : Kx)) rfl _ rfl rfl S0.out ?_) | (refine wpList_storeX (b := w.heap.size + 1) (m := Kx.zero) (m' := ({ c with n1 := eb } : Kx)) rfl _ _ rfl rfl rfl R0.out ?_))
      exact bodyPost_ret (v := .tuple #[.agg (Kx.cells ({ c with n1 := eb } : Kx)), .int .i64 0]) (results_pair rfl _ _ (w.heap.size + 1) _ rfl (loadVarK shX (R0.out.put (Kx.cells ({ c with n1 := eb } : Kx))) rfl) (.int .i64 0) rfl) rfl ⟨by first | (rw [HY.out]; done) | (rw [HY.out]; rfl), Box.below_setRow HB.out (by omega) _⟩
theorem pf_cellX {W : World} {b : Nat} {c : Kx} (h : Bk 25 W b c.cells) {k : Nat} (hk : k < 4) : W.cell? ⟨b, k, none⟩ = some (.string (c.pf k)) := by
  rcases (show k = 0 ∨ k = 1 ∨ k = 2 ∨ k = 3 by omega) with rfl | rfl | rfl | rfl
  · exact h.cell 0 _ rfl
  · exact h.cell 1 _ rfl
  · exact h.cell 2 _ rfl
  · exact h.cell 3 _ rfl
theorem nx_cellX {W : World} {b : Nat} {c : Kx} (h : Bk 25 W b c.cells) {k : Nat} (hk : k < 2) : W.cell? ⟨b, 4 + k, none⟩ = some (.string (c.nx k)) := by
  rcases (show k = 0 ∨ k = 1 by omega) with rfl | rfl
  · exact h.cell 4 _ rfl
  · exact h.cell 5 _ rfl
theorem setP_cellsX (c : Kx) (a : ByteArray) {k : Nat} (hk : k < 4) : c.cells.setIfInBounds k (.string a) = (c.setP k a).cells := by
  rcases (show k = 0 ∨ k = 1 ∨ k = 2 ∨ k = 3 by omega) with rfl | rfl | rfl | rfl <;> rfl
theorem tell_is (c : Kx) (u : Up) : tellB c u = (!decide (u.hav = 0) && (decide (u.metric = 65535) || (!decide (u.ae = 0) && !decide (c.id.size = 0)))) := rfl
/-- The message that is told, with the Update's Subs; none. -/
def toldM (c : Kx) (u : Up) (a : ByteArray) : M := if tellB c u then { updM c u a with sa := u.sa, sc := u.sc } else M.zero
set_option maxHeartbeats 25600000 in
theorem told_any (c : Kx) (d : ByteArray) (u : Up) (a : ByteArray) (w : World) (g : Cnt d u) :
    Calls Tryz.prog 108 #[.agg c.cells, .agg u.cells, .string a] w fun e w' => e = .returned (.tuple #[.agg (toldM c u a).cells, .bool (tellB c u)]) ∧ Below w.heap.size w w' := by
  have HT := Lib.hid (tell_is c u)
  have n1 := nil_eq c.id
  have n2 := nil_em c.id
  have S0 := Lib.hid (((Bk.Bk.new 25 w c.cells).old (.cells u.cells 111)).old (.cells M.zero.cells 29))
  have U0 := Bk.Bk.new 111 (w.alloc (.cells c.cells 25)) u.cells
  rw [alloc_size] at U0
  have U0 := Lib.hid (U0.old (.cells M.zero.cells 29))
  have R0 := Bx.new ((w.alloc (.cells c.cells 25)).alloc (.cells u.cells 111)) M.zero
  rw [alloc_size, alloc_size] at R0
  have R0 := Lib.hid R0
  have HB := Lib.hid (balloc (balloc (balloc (Below.refl _ w) (.cells c.cells 25)) (.cells u.cells 111)) (.cells M.zero.cells 29))
  have PF := Lib.hid (fun V => rfam_any u.ae V)
  obtain ⟨m0, hm0⟩ : ∃ m : M, m = { M.zero with kind := 11, ae := u.ae, pfx := a, plen := u.plen, interval := u.iv, seq := u.seq, metric := u.metric, sa := u.sa, sl := u.sl, sc := u.sc } := ⟨_, rfl⟩
  have HM0 := Lib.hid hm0
  have h0 := g.ae0
  have h3 := g.ae3
  clear hm0 g
  by_cases h7 : u.hav = 0
  · rw [decide_eq_true h7] at HT
    have HT := Lib.hid (show tellB c u = false from HT.out)
    have H7 := Lib.hid h7
    clear h7
    have HK := Lib.hid (show toldM c u a = M.zero by unfold toldM; rw [HT.out]; rfl)
    go_enter Tryz.func108, Tryz.ntmps108
    go_upto_region 1 with fail
    change Code.wp _ _ _ _ (((w.alloc (.cells c.cells 25)).alloc (.cells u.cells 111)).alloc (.cells M.zero.cells 29))
    generalize ((w.alloc (.cells c.cells 25)).alloc (.cells u.cells 111)).alloc (.cells M.zero.cells 29) = W at *
    have c0 := U0.out.cell 0 (.int .i64 u.ae) rfl
    have c2 := U0.out.cell 2 (.int .i64 u.plen) rfl
    have c4 := U0.out.cell 4 (.int .i64 u.iv) rfl
    have c5 := U0.out.cell 5 (.int .i64 u.seq) rfl
    have c6 := U0.out.cell 6 (.int .i64 u.metric) rfl
    have c9 := U0.out.cell 9 (.slice u.sa u.sl.length u.sc) rfl
    have hlt := R0.out.lt
    go_upto_region 2 with (first | (refine wpList_builtK rfl 29 _ rfl (M.cells { M.zero with kind := 11, ae := u.ae, pfx := a, plen := u.plen, interval := u.iv, seq := u.seq, metric := u.metric, sa := u.sa, sl := u.sl, sc := u.sc }) (by kernel_rfl) ?_) | (refine wpList_storeM (b := W.heap.size) (m := M.zero) (m' := { M.zero with kind := 11, ae := u.ae, pfx := a, plen := u.plen, interval := u.iv, seq := u.seq, metric := u.metric, sa := u.sa, sl := u.sl, sc := u.sc }) rfl _ _ rfl rfl rfl (Bx.new W M.zero) ?_))
    change Code.wp _ _ _ _ ((W.alloc (.cells M.zero.cells 29)).setRow W.heap.size (M.cells { M.zero with kind := 11, ae := u.ae, pfx := a, plen := u.plen, interval := u.iv, seq := u.seq, metric := u.metric, sa := u.sa, sl := u.sl, sc := u.sc }))
    rw [World.setRow_alloc_new, ← HM0.out]
    have bel := balloc (Below.refl W.heap.size W) (.cells m0.cells 29)
    have S0 := Lib.hid (S0.out.below bel)
    have U0 := Lib.hid (U0.out.below bel)
    have R0 := Lib.hid (R0.out.below bel)
    have HB := Lib.hid (bcall HB.out bel)
    have X0 := Lib.hid (Bx.new W m0)
    clear bel c0 c2 c4 c5 c6 c9
    generalize W.alloc (.cells m0.cells 29) = Y at *
    generalize W.heap.size = gx at *
    have c0 := U0.out.cell 0 (.int .i64 u.ae) rfl
    have c6 := U0.out.cell 6 (.int .i64 u.metric) rfl
    have c7 := U0.out.cell 7 (.int .i64 u.hav) rfl
    have s6 := S0.out.cell 6 (.string c.id) rfl
    rw [H7.out] at c7
    go_wp2_with (first | (refine wpList_builtK rfl 29 _ rfl (M.cells M.zero) (by kernel_rfl) ?_) | (refine wpList_loadM (b := gx) (m := M.zero) rfl _ rfl rfl X0.out ?_) | (refine wpList_storeM (b := w.heap.size + 1 + 1) (m := M.zero) (m' := M.zero) rfl _ _ rfl rfl rfl R0.out ?_))
    exact bodyPost_ret (v := .tuple #[.agg (M.cells M.zero), .bool false]) (results_pair rfl _ _ (w.heap.size + 1 + 1) _ rfl (Own.loadVarM (R0.out.put (m' := M.zero))) (.bool false) rfl) rfl ⟨by rw [HK.out, HT.out], Box.below_setRow HB.out (by omega) _⟩
  have e7 : (u.hav == 0) = false := by simpa using h7
  rw [decide_eq_false h7] at HT
  clear h7
  by_cases hm : u.metric = 65535
  · rw [decide_eq_true hm] at HT
    have HT := Lib.hid (show tellB c u = true from HT.out)
    have HK := Lib.hid (show toldM c u a = m0 from by
      unfold toldM
      rw [HT.out, if_pos rfl, HM0.out]
      unfold updM
      rw [if_pos hm, if_pos hm]
      rfl)
    have HMM := Lib.hid hm
    clear hm
    go_enter Tryz.func108, Tryz.ntmps108
    go_upto_region 1 with fail
    change Code.wp _ _ _ _ (((w.alloc (.cells c.cells 25)).alloc (.cells u.cells 111)).alloc (.cells M.zero.cells 29))
    generalize ((w.alloc (.cells c.cells 25)).alloc (.cells u.cells 111)).alloc (.cells M.zero.cells 29) = W at *
    have c0 := U0.out.cell 0 (.int .i64 u.ae) rfl
    have c2 := U0.out.cell 2 (.int .i64 u.plen) rfl
    have c4 := U0.out.cell 4 (.int .i64 u.iv) rfl
    have c5 := U0.out.cell 5 (.int .i64 u.seq) rfl
    have c6 := U0.out.cell 6 (.int .i64 u.metric) rfl
    have c9 := U0.out.cell 9 (.slice u.sa u.sl.length u.sc) rfl
    have hlt := R0.out.lt
    go_upto_region 2 with (first | (refine wpList_builtK rfl 29 _ rfl (M.cells { M.zero with kind := 11, ae := u.ae, pfx := a, plen := u.plen, interval := u.iv, seq := u.seq, metric := u.metric, sa := u.sa, sl := u.sl, sc := u.sc }) (by kernel_rfl) ?_) | (refine wpList_storeM (b := W.heap.size) (m := M.zero) (m' := { M.zero with kind := 11, ae := u.ae, pfx := a, plen := u.plen, interval := u.iv, seq := u.seq, metric := u.metric, sa := u.sa, sl := u.sl, sc := u.sc }) rfl _ _ rfl rfl rfl (Bx.new W M.zero) ?_))
    change Code.wp _ _ _ _ ((W.alloc (.cells M.zero.cells 29)).setRow W.heap.size (M.cells { M.zero with kind := 11, ae := u.ae, pfx := a, plen := u.plen, interval := u.iv, seq := u.seq, metric := u.metric, sa := u.sa, sl := u.sl, sc := u.sc }))
    rw [World.setRow_alloc_new, ← HM0.out]
    have bel := balloc (Below.refl W.heap.size W) (.cells m0.cells 29)
    have S0 := Lib.hid (S0.out.below bel)
    have U0 := Lib.hid (U0.out.below bel)
    have R0 := Lib.hid (R0.out.below bel)
    have HB := Lib.hid (bcall HB.out bel)
    have X0 := Lib.hid (Bx.new W m0)
    clear bel c0 c2 c4 c5 c6 c9
    generalize W.alloc (.cells m0.cells 29) = Y at *
    generalize W.heap.size = gx at *
    have c0 := U0.out.cell 0 (.int .i64 u.ae) rfl
    have c6 := U0.out.cell 6 (.int .i64 u.metric) rfl
    have c7 := U0.out.cell 7 (.int .i64 u.hav) rfl
    have s6 := S0.out.cell 6 (.string c.id) rfl
    rw [HMM.out] at c6
    go_wp2_with (first | (refine wpList_builtK rfl 29 _ rfl (M.cells M.zero) (by kernel_rfl) ?_) | (refine wpList_loadM (b := gx) (m := m0) rfl _ rfl rfl X0.out ?_) | (refine wpList_storeM (b := w.heap.size + 1 + 1) (m := M.zero) (m' := m0) rfl _ _ rfl rfl rfl R0.out ?_))
    exact bodyPost_ret (v := .tuple #[.agg (M.cells m0), .bool true]) (results_pair rfl _ _ (w.heap.size + 1 + 1) _ rfl (Own.loadVarM (R0.out.put (m' := m0))) (.bool true) rfl) rfl ⟨by rw [HK.out, HT.out], Box.below_setRow HB.out (by omega) _⟩
  have hm2 : (u.metric == 65535) = false := by simpa using hm
  rw [decide_eq_false hm] at HT
  by_cases hae : u.ae = 0
  · rw [decide_eq_true hae] at HT
    have HT := Lib.hid (show tellB c u = false from HT.out)
    have HA := Lib.hid hae
    clear hae hm h0 h3
    have HK := Lib.hid (show toldM c u a = M.zero by unfold toldM; rw [HT.out]; rfl)
    go_enter Tryz.func108, Tryz.ntmps108
    go_upto_region 1 with fail
    change Code.wp _ _ _ _ (((w.alloc (.cells c.cells 25)).alloc (.cells u.cells 111)).alloc (.cells M.zero.cells 29))
    generalize ((w.alloc (.cells c.cells 25)).alloc (.cells u.cells 111)).alloc (.cells M.zero.cells 29) = W at *
    have c0 := U0.out.cell 0 (.int .i64 u.ae) rfl
    have c2 := U0.out.cell 2 (.int .i64 u.plen) rfl
    have c4 := U0.out.cell 4 (.int .i64 u.iv) rfl
    have c5 := U0.out.cell 5 (.int .i64 u.seq) rfl
    have c6 := U0.out.cell 6 (.int .i64 u.metric) rfl
    have c9 := U0.out.cell 9 (.slice u.sa u.sl.length u.sc) rfl
    have hlt := R0.out.lt
    go_upto_region 2 with (first | (refine wpList_builtK rfl 29 _ rfl (M.cells { M.zero with kind := 11, ae := u.ae, pfx := a, plen := u.plen, interval := u.iv, seq := u.seq, metric := u.metric, sa := u.sa, sl := u.sl, sc := u.sc }) (by kernel_rfl) ?_) | (refine wpList_storeM (b := W.heap.size) (m := M.zero) (m' := { M.zero with kind := 11, ae := u.ae, pfx := a, plen := u.plen, interval := u.iv, seq := u.seq, metric := u.metric, sa := u.sa, sl := u.sl, sc := u.sc }) rfl _ _ rfl rfl rfl (Bx.new W M.zero) ?_))
    change Code.wp _ _ _ _ ((W.alloc (.cells M.zero.cells 29)).setRow W.heap.size (M.cells { M.zero with kind := 11, ae := u.ae, pfx := a, plen := u.plen, interval := u.iv, seq := u.seq, metric := u.metric, sa := u.sa, sl := u.sl, sc := u.sc }))
    rw [World.setRow_alloc_new, ← HM0.out]
    have bel := balloc (Below.refl W.heap.size W) (.cells m0.cells 29)
    have S0 := Lib.hid (S0.out.below bel)
    have U0 := Lib.hid (U0.out.below bel)
    have R0 := Lib.hid (R0.out.below bel)
    have HB := Lib.hid (bcall HB.out bel)
    have X0 := Lib.hid (Bx.new W m0)
    clear bel c0 c2 c4 c5 c6 c9
    generalize W.alloc (.cells m0.cells 29) = Y at *
    generalize W.heap.size = gx at *
    have c0 := U0.out.cell 0 (.int .i64 u.ae) rfl
    have c6 := U0.out.cell 6 (.int .i64 u.metric) rfl
    have c7 := U0.out.cell 7 (.int .i64 u.hav) rfl
    have s6 := S0.out.cell 6 (.string c.id) rfl
    rw [HA.out] at c0
    go_wp2_with (first | (refine wpList_builtK rfl 29 _ rfl (M.cells M.zero) (by kernel_rfl) ?_) | (refine wpList_loadM (b := gx) (m := M.zero) rfl _ rfl rfl X0.out ?_) | (refine wpList_storeM (b := w.heap.size + 1 + 1) (m := M.zero) (m' := M.zero) rfl _ _ rfl rfl rfl R0.out ?_))
    exact bodyPost_ret (v := .tuple #[.agg (M.cells M.zero), .bool false]) (results_pair rfl _ _ (w.heap.size + 1 + 1) _ rfl (Own.loadVarM (R0.out.put (m' := M.zero))) (.bool false) rfl) rfl ⟨by rw [HK.out, HT.out], Box.below_setRow HB.out (by omega) _⟩
  have e0 : (u.ae == 0) = false := by simpa using hae
  rw [decide_eq_false hae] at HT
  by_cases hz : c.id.size = 0
  · rw [decide_eq_true hz] at HT n1 n2
    have HT := Lib.hid (show tellB c u = false from HT.out)
    clear hz hae hm h0 h3
    have HK := Lib.hid (show toldM c u a = M.zero by unfold toldM; rw [HT.out]; rfl)
    go_enter Tryz.func108, Tryz.ntmps108
    go_upto_region 1 with fail
    change Code.wp _ _ _ _ (((w.alloc (.cells c.cells 25)).alloc (.cells u.cells 111)).alloc (.cells M.zero.cells 29))
    generalize ((w.alloc (.cells c.cells 25)).alloc (.cells u.cells 111)).alloc (.cells M.zero.cells 29) = W at *
    have c0 := U0.out.cell 0 (.int .i64 u.ae) rfl
    have c2 := U0.out.cell 2 (.int .i64 u.plen) rfl
    have c4 := U0.out.cell 4 (.int .i64 u.iv) rfl
    have c5 := U0.out.cell 5 (.int .i64 u.seq) rfl
    have c6 := U0.out.cell 6 (.int .i64 u.metric) rfl
    have c9 := U0.out.cell 9 (.slice u.sa u.sl.length u.sc) rfl
    have hlt := R0.out.lt
    go_upto_region 2 with (first | (refine wpList_builtK rfl 29 _ rfl (M.cells { M.zero with kind := 11, ae := u.ae, pfx := a, plen := u.plen, interval := u.iv, seq := u.seq, metric := u.metric, sa := u.sa, sl := u.sl, sc := u.sc }) (by kernel_rfl) ?_) | (refine wpList_storeM (b := W.heap.size) (m := M.zero) (m' := { M.zero with kind := 11, ae := u.ae, pfx := a, plen := u.plen, interval := u.iv, seq := u.seq, metric := u.metric, sa := u.sa, sl := u.sl, sc := u.sc }) rfl _ _ rfl rfl rfl (Bx.new W M.zero) ?_))
    change Code.wp _ _ _ _ ((W.alloc (.cells M.zero.cells 29)).setRow W.heap.size (M.cells { M.zero with kind := 11, ae := u.ae, pfx := a, plen := u.plen, interval := u.iv, seq := u.seq, metric := u.metric, sa := u.sa, sl := u.sl, sc := u.sc }))
    rw [World.setRow_alloc_new, ← HM0.out]
    have bel := balloc (Below.refl W.heap.size W) (.cells m0.cells 29)
    have S0 := Lib.hid (S0.out.below bel)
    have U0 := Lib.hid (U0.out.below bel)
    have R0 := Lib.hid (R0.out.below bel)
    have HB := Lib.hid (bcall HB.out bel)
    have X0 := Lib.hid (Bx.new W m0)
    clear bel c0 c2 c4 c5 c6 c9
    generalize W.alloc (.cells m0.cells 29) = Y at *
    generalize W.heap.size = gx at *
    have c0 := U0.out.cell 0 (.int .i64 u.ae) rfl
    have c6 := U0.out.cell 6 (.int .i64 u.metric) rfl
    have c7 := U0.out.cell 7 (.int .i64 u.hav) rfl
    have s6 := S0.out.cell 6 (.string c.id) rfl
    go_wp2_with (first | (refine wpList_builtK rfl 29 _ rfl (M.cells M.zero) (by kernel_rfl) ?_) | (refine wpList_loadM (b := gx) (m := M.zero) rfl _ rfl rfl X0.out ?_) | (refine wpList_storeM (b := w.heap.size + 1 + 1) (m := M.zero) (m' := M.zero) rfl _ _ rfl rfl rfl R0.out ?_))
    exact bodyPost_ret (v := .tuple #[.agg (M.cells M.zero), .bool false]) (results_pair rfl _ _ (w.heap.size + 1 + 1) _ rfl (Own.loadVarM (R0.out.put (m' := M.zero))) (.bool false) rfl) rfl ⟨by rw [HK.out, HT.out], Box.below_setRow HB.out (by omega) _⟩
  rw [decide_eq_false hz] at HT n1 n2
  have HT := Lib.hid (show tellB c u = true from HT.out)
  obtain ⟨f, hf, hf2⟩ : ∃ f : Nat, fam u.ae = f ∧ f < 2 := by
    rcases (show u.ae = 1 ∨ u.ae = 2 ∨ u.ae = 3 by omega) with e | e | e <;> rw [e]
    · exact ⟨0, rfl, by decide⟩
    · exact ⟨1, rfl, by decide⟩
    · exact ⟨1, rfl, by decide⟩
  have HK := Lib.hid (show toldM c u a = { m0 with id := c.id, next := c.nx f } from by
    unfold toldM
    rw [HT.out, if_pos rfl, HM0.out]
    unfold updM
    rw [if_neg hm, if_neg hm, hf])
  rw [hf] at PF
  clear hz hae hm h0 h3 hf
  go_enter Tryz.func108, Tryz.ntmps108
  go_upto_region 1 with fail
  change Code.wp _ _ _ _ (((w.alloc (.cells c.cells 25)).alloc (.cells u.cells 111)).alloc (.cells M.zero.cells 29))
  generalize ((w.alloc (.cells c.cells 25)).alloc (.cells u.cells 111)).alloc (.cells M.zero.cells 29) = W at *
  have c0 := U0.out.cell 0 (.int .i64 u.ae) rfl
  have c2 := U0.out.cell 2 (.int .i64 u.plen) rfl
  have c4 := U0.out.cell 4 (.int .i64 u.iv) rfl
  have c5 := U0.out.cell 5 (.int .i64 u.seq) rfl
  have c6 := U0.out.cell 6 (.int .i64 u.metric) rfl
  have c9 := U0.out.cell 9 (.slice u.sa u.sl.length u.sc) rfl
  have hlt := R0.out.lt
  go_upto_region 2 with (first | (refine wpList_builtK rfl 29 _ rfl (M.cells { M.zero with kind := 11, ae := u.ae, pfx := a, plen := u.plen, interval := u.iv, seq := u.seq, metric := u.metric, sa := u.sa, sl := u.sl, sc := u.sc }) (by kernel_rfl) ?_) | (refine wpList_storeM (b := W.heap.size) (m := M.zero) (m' := { M.zero with kind := 11, ae := u.ae, pfx := a, plen := u.plen, interval := u.iv, seq := u.seq, metric := u.metric, sa := u.sa, sl := u.sl, sc := u.sc }) rfl _ _ rfl rfl rfl (Bx.new W M.zero) ?_))
  change Code.wp _ _ _ _ ((W.alloc (.cells M.zero.cells 29)).setRow W.heap.size (M.cells { M.zero with kind := 11, ae := u.ae, pfx := a, plen := u.plen, interval := u.iv, seq := u.seq, metric := u.metric, sa := u.sa, sl := u.sl, sc := u.sc }))
  rw [World.setRow_alloc_new, ← HM0.out]
  have bel := balloc (Below.refl W.heap.size W) (.cells m0.cells 29)
  have S0 := Lib.hid (S0.out.below bel)
  have U0 := Lib.hid (U0.out.below bel)
  have R0 := Lib.hid (R0.out.below bel)
  have HB := Lib.hid (bcall HB.out bel)
  have X0 := Lib.hid (Bx.new W m0)
  clear bel c0 c2 c4 c5 c6 c9
  generalize W.alloc (.cells m0.cells 29) = Y at *
  generalize W.heap.size = gx at *
  have c0 := U0.out.cell 0 (.int .i64 u.ae) rfl
  have c6 := U0.out.cell 6 (.int .i64 u.metric) rfl
  have c7 := U0.out.cell 7 (.int .i64 u.hav) rfl
  have s6 := S0.out.cell 6 (.string c.id) rfl
  go_upto_region 8 with fail
  clear c0 c6 c7 s6 n1 n2 hm2 e0 e7
  refine wp_region_held_drew (S := fun X => Bk 25 X w.heap.size c.cells ∧ Bk 111 X (w.heap.size + 1) u.cells) (by kernel_rfl) ⟨S0.out, U0.out⟩ (fun hS => ?_)
  have X0 := Lib.hid (show Bx Y.drew gx m0 from X0.out)
  have R0 := Lib.hid (show Bx Y.drew (w.heap.size + 1 + 1) M.zero from R0.out)
  have HB := Lib.hid HB.out.drew
  clear S0 U0
  generalize Y.drew = Y0 at *
  refine H.tk (i := 0) (v := ?v0) ?h0 hS ?_
  case h0 => (intro w hw; go_simp; first | done | (with_reducible rfl))
  try simp only [Act.put, List.setIfInBounds_toArray, List.set_cons_zero, List.set_cons_succ]
  refine H.tk (i := 1) (v := .string c.id) ?h1 hS ?_
  case h1 => exact (fun w hw => by have cq := hw.1.cell 6 (.string c.id) rfl; go_simp)
  try simp only [Act.put, List.setIfInBounds_toArray, List.set_cons_zero, List.set_cons_succ]
  refine H.tk (i := 2) (v := ?v2) ?h2 hS ?_
  case h2 => (intro w hw; go_simp; first | done | (with_reducible rfl))
  try simp only [Act.put, List.setIfInBounds_toArray, List.set_cons_zero, List.set_cons_succ]
  refine H.tk (i := 3) (v := .int .i64 u.ae) ?h3 hS ?_
  case h3 => exact (fun w hw => by have cq := hw.2.cell 0 (.int .i64 u.ae) rfl; go_simp)
  try simp only [Act.put, List.setIfInBounds_toArray, List.set_cons_zero, List.set_cons_succ]
  refine H.tk (i := 5) (v := ?v5) ?h5 hS ?_
  case h5 => (intro w hw; go_simp; first | done | (with_reducible rfl))
  try simp only [Act.put, List.setIfInBounds_toArray, List.set_cons_zero, List.set_cons_succ]
  refine H.tk (i := 8) (v := ?v8) ?h8 hS ?_
  case h8 => (intro w hw; go_simp; first | done | (with_reducible rfl))
  try simp only [Act.put, List.setIfInBounds_toArray, List.set_cons_zero, List.set_cons_succ]
  refine wpAnyH_ready (rs := [4]) (by kernel_rfl) (by simp) ?_
  refine AllReadyH.cons rfl (fun K hK => ?_) AllReadyH.nil
  go_simp
  refine (PF.out _).mono ?_
  rintro e X4 ⟨rfl, rfl⟩
  refine hK.out _ _ hS (fun _ => ?_)
  clear hK K
  try simp only [Act.put, List.setIfInBounds_toArray, List.set_cons_zero, List.set_cons_succ]
  refine H.tk (i := 6) (v := .pointer (some ⟨w.heap.size, 4 + f, none⟩)) ?h6 hS ?_
  case h6 => exact (fun _ _ => ex_indexAt rfl rfl rfl (indexAt2 w.heap.size f hf2 _))
  try simp only [Act.put, List.setIfInBounds_toArray, List.set_cons_zero, List.set_cons_succ]
  refine H.tk (i := 7) (v := .string (c.nx f)) ?h7 hS ?_
  case h7 => exact (fun w hw => by have cq := nx_cellX hw.1 hf2; go_simp)
  try simp only [Act.put, List.setIfInBounds_toArray, List.set_cons_zero, List.set_cons_succ]
  refine wpAnyH_ready (rs := [9]) (by kernel_rfl) (by simp) ?_
  refine AllReadyH.cons rfl (fun K hK => ?_) AllReadyH.nil
  have cx := X0.out.cs.c11
  have fx := X0.out.frozen 11
  go_simp
  have X0 := Lib.hid (X0.out.set (i := 11) (v := .string c.id) (m' := { m0 with id := c.id }) rfl)
  have R0 := Lib.hid (R0.out.off (p := ⟨gx, 11, none⟩) (by show w.heap.size + 1 + 1 ≠ gx; omega) (.string c.id))
  have HB := Lib.hid (HB.out.setCell (p := ⟨gx, 11, none⟩) (by show w.heap.size ≤ gx; omega) (.string c.id))
  refine hK.out _ _ ⟨hS.1.off (p := ⟨gx, 11, none⟩) (by show w.heap.size ≠ gx; omega) (.string c.id), hS.2.off (p := ⟨gx, 11, none⟩) (by show w.heap.size + 1 ≠ gx; omega) (.string c.id)⟩ (fun hS' => ?_)
  clear hK K hS cx fx
  have hS := hS'
  clear hS'
  generalize World.setCell _ ⟨gx, 11, none⟩ _ = Y9 at *
  try simp only [Act.put, List.setIfInBounds_toArray, List.set_cons_zero, List.set_cons_succ]
  refine H.tk (i := 10) (v := ?v10) ?h10 hS ?_
  case h10 => (intro w hw; go_simp; first | done | (with_reducible rfl))
  try simp only [Act.put, List.setIfInBounds_toArray, List.set_cons_zero, List.set_cons_succ]
  refine wpAnyH_ready (rs := [11]) (by kernel_rfl) (by simp) ?_
  refine AllReadyH.cons rfl (fun K hK => ?_) AllReadyH.nil
  have cx := X0.out.cs.c9
  have fx := X0.out.frozen 9
  go_simp
  have X0 := Lib.hid (X0.out.set (i := 9) (v := .string (c.nx f)) (m' := { m0 with id := c.id, next := c.nx f }) rfl)
  have R0 := Lib.hid (R0.out.off (p := ⟨gx, 9, none⟩) (by show w.heap.size + 1 + 1 ≠ gx; omega) (.string (c.nx f)))
  have HB := Lib.hid (HB.out.setCell (p := ⟨gx, 9, none⟩) (by show w.heap.size ≤ gx; omega) (.string (c.nx f)))
  refine hK.out _ _ ⟨hS.1.off (p := ⟨gx, 9, none⟩) (by show w.heap.size ≠ gx; omega) (.string (c.nx f)), hS.2.off (p := ⟨gx, 9, none⟩) (by show w.heap.size + 1 ≠ gx; omega) (.string (c.nx f))⟩ (fun hS' => ?_)
  clear hK K hS cx fx
  have hS := hS'
  clear hS'
  generalize World.setCell _ ⟨gx, 9, none⟩ _ = Y11 at *
  try simp only [Act.put, List.setIfInBounds_toArray, List.set_cons_zero, List.set_cons_succ]
  refine wpAnyH_done (by kernel_rfl) ?_ _
  go_wp2_with (first | (refine wpList_loadM (b := gx) (m := { m0 with id := c.id, next := c.nx f }) rfl _ rfl rfl X0.out ?_) | (refine wpList_storeM (b := w.heap.size + 1 + 1) (m := M.zero) (m' := { m0 with id := c.id, next := c.nx f }) rfl _ _ rfl rfl rfl R0.out ?_))
  exact bodyPost_ret (v := .tuple #[.agg (M.cells { m0 with id := c.id, next := c.nx f }), .bool true]) (results_pair rfl _ _ (w.heap.size + 1 + 1) _ rfl (Own.loadVarM (R0.out.put (m' := { m0 with id := c.id, next := c.nx f }))) (.bool true) rfl) rfl ⟨by rw [HK.out, HT.out], Box.below_setRow HB.out (by omega) _⟩
end Go.Proofs.YtfegdblaohhdoaaGreatDoor.K7
namespace Go.Proofs.YtfegdblaohhdoaaGreatDoor.Jt
open Go.ChangeShapes Go.WideShapes Go.ChangeAt Go.RowKit
open Go.Proofs.YtfegdblaohhdoaaGreatDoor.Ms
open Go.Proofs.YtfegdblaohhdoaaGreatDoor.Box
open Go.Proofs.YtfegdblaohhdoaaGreatDoor.S1
open Go.Proofs.YtfegdblaohhdoaaGreatDoor.Nu
open Go.Proofs.YtfegdblaohhdoaaGreatDoor.J1
open Go.Proofs.YtfegdblaohhdoaaGreatDoor.J2
open Go.Proofs.YtfegdblaohhdoaaGreatDoor.J4 (shU wpList_loadU wpList_storeU)
open Go.Proofs.YtfegdblaohhdoaaGreatDoor.J6 (lst_cell AnsU AnsU.no AnsU.yes)
open Go.Proofs.YtfegdblaohhdoaaGreatDoor.J8 (D D.start D.drew D.call D.cell D.row rnum2)
open Go.Proofs.YtfegdblaohhdoaaGreatDoor.An
open Go.Proofs.YtfegdblaohhdoaaGreatDoor.F1 (bt bt_nn bt_lt)
open Go.Proofs.YtfegdblaohhdoaaGreatDoor.F2 (idx sl_m sl_l)
open Go.Proofs.YtfegdblaohhdoaaGreatDoor.Hx (conv8)
open Go.Proofs.YtfegdblaohhdoaaGreatDoor.Pre (leastN)
open Go.Proofs.YtfegdblaohhdoaaGreatDoor.Tl (cellsT)
open Go.Proofs.YtfegdblaohhdoaaGreatDoor.Bk (Bk wpList_builtK alloc_size loadVarK)
open Go.Proofs.YtfegdblaohhdoaaGreatDoor.Hs
open Go.Proofs.YtfegdblaohhdoaaGreatDoor.Hy
set_option linter.unusedVariables false
set_option maxRecDepth 100000
set_option maxRecDepth 100000
theorem cutG {T G : Prop} (t : T) (h : T → G) : G := h t
theorem rnumE (s : ByteArray) (a b : Nat) (h : b = a + 2) (w : World) : Calls Tryz.prog 72 #[.string (s.extract a b)] w fun e w' => e = .returned (.int .i64 (num2 s a)) ∧ w = w' := (rnum2 s a b h w).mono fun _ _ ⟨h, k⟩ => ⟨h, k.symm⟩
theorem infoU : (Tryz.prog.info? 111).map (·.size) = some 10 := by kernel_rfl
theorem H.storeLast {i : Nat} {P : Program} {ops : Array Oper} {Q : Exit → Act → World → Prop} {md : Region.Mode} {S : World → Prop} {o : Oper} {fuel : Nat} {listed : Array Bool} {a : Act} {w : World} {ty : TypeId} {x y : Operand}
    (ho : ops[i]? = some o) (hw : Region.wanted o (yielded ops a.tmps) = true) (hr : Region.ready md ops listed = [i]) (hd : o.dst = none) (hop : o.op = .store ty x y)
    (g : Nat) (cells : Array Value) (hx : a.eval x = .pointer (some ⟨g, 0, none⟩)) (hy : a.eval y = .agg cells) (t : TypeId) (old : Array Value) (hg : w.heap[g]? = some (.cells old t (0, 0)))
    (hi : (P.info? ty).map (·.size) = some cells.size) (hold : old.size = cells.size) (h1 : cells.all (·.oneCell') = true) (hS : S (w.setRow g cells))
    (h : wpAnyH P md ops Q S fuel (listed.setIfInBounds i true) a (w.setRow g cells)) : wpAnyH P md ops Q S (fuel + 1) listed a w := Hx.H.storeRow ho hw hd hop hr g cells hx hy t old hg hi hold h1 hS h
set_option maxHeartbeats 25600000 in
theorem rtake_own (a : Int) (s : ByteArray) (w : World) (hs : s.size ≤ 100000) : Calls Tryz.prog 107 #[.agg (cellsT (a, (s, 8)))] w (AnsU (outK s) w) := by
  by_cases hz : s.size < 10
  · have HY := Lib.hid (outK_no (d := s) (end_short hz))
    have hz2 : (s.size : Int) < 10 := by omega
    go_enter Tryz.func107, Tryz.ntmps107
    go_upto_region 1 with fail
    change Code.wp _ _ _ _ ((w.alloc (.cells (cellsT (a, (s, 8))) 62)).alloc (.cells Up.zero.cells 111))
    have HD := Lib.hid (D.start (T := 111) (zs := Up.zero.cells) w a 8 s)
    generalize (w.alloc (.cells (cellsT (a, (s, 8))) 62)).alloc (.cells Up.zero.cells 111) = W at *
    have c2 := HD.out.tl.cell 2 (.string s) rfl
    go_wp2_with (first | (refine wpList_builtK rfl 111 _ rfl (Up.cells Up.zero) (by kernel_rfl) ?_) | (refine wpList_storeU (b := w.heap.size + 1) (m := Up.zero) (m' := Up.zero) rfl _ _ rfl rfl rfl HD.out.res ?_))
    exact bodyPost_ret (v := .tuple #[.agg Up.zero.cells, .bool false, .int .i64 2]) (results_three rfl _ _ (w.heap.size + 1) _ rfl (loadVarK shU (HD.out.res.put Up.zero.cells) rfl) (.bool false) rfl (.int .i64 2) rfl) rfl (AnsU.no HY.out (Box.below_setRow HD.out.bel (by omega) _))
  have hz2 : ¬ (s.size : Int) < 10 := by omega
  have i0 := idx s 0 0 rfl (by omega)
  have b0 := bt_nn s 0
  have b0' := bt_lt s 0
  have v0 := conv8 (bt s 0) b0 b0'
  have i1 := idx s 1 1 rfl (by omega)
  have b1 := bt_nn s 1
  have b1' := bt_lt s 1
  have v1 := conv8 (bt s 1) b1 b1'
  have i2 := idx s 2 2 rfl (by omega)
  have b2 := bt_nn s 2
  have b2' := bt_lt s 2
  have v2 := conv8 (bt s 2) b2 b2'
  have i3 := idx s 3 3 rfl (by omega)
  have b3 := bt_nn s 3
  have b3' := bt_lt s 3
  have v3 := conv8 (bt s 3) b3 b3'
  have P4 := Lib.hid (rnumE s 4 6 rfl)
  have s4 := sl_m s 4 6 4 6 rfl rfl (by omega) (by omega)
  have P6 := Lib.hid (rnumE s 6 8 rfl)
  have s6 := sl_m s 6 8 6 8 rfl rfl (by omega) (by omega)
  have P8 := Lib.hid (rnumE s 8 10 rfl)
  have s8 := sl_m s 8 10 8 10 rfl rfl (by omega) (by omega)
  go_enter Tryz.func107, Tryz.ntmps107
  go_upto_region 1 with fail
  change Code.wp _ _ _ _ ((w.alloc (.cells (cellsT (a, (s, 8))) 62)).alloc (.cells Up.zero.cells 111))
  have HD := Lib.hid (D.start (T := 111) (zs := Up.zero.cells) w a 8 s)
  generalize (w.alloc (.cells (cellsT (a, (s, 8))) 62)).alloc (.cells Up.zero.cells 111) = W at *
  have c2 := HD.out.tl.cell 2 (.string s) rfl
  go_upto_region 4 with fail
  clear c2
  refine wp_region_held_drew (S := fun _ => True) (by kernel_rfl) trivial (fun hS => ?_)
  have HD := Lib.hid HD.out.drew
  generalize W.drew = X0 at *
  apply cutG
  case h =>
    intro leaf
    refine H.tk (i := 0) (v := ?v0x1) ?h0x1 hS ?_
    case h0x1 => (intro w hw; go_simp; first | done | (with_reducible rfl))
    try simp only [Act.put, List.setIfInBounds_toArray, List.set_cons_zero, List.set_cons_succ]
    refine H.tk (i := 1) (v := .int .u8 (bt s 0)) ?h1x2 hS ?_
    case h1x2 => exact (fun w hw => by go_simp)
    try simp only [Act.put, List.setIfInBounds_toArray, List.set_cons_zero, List.set_cons_succ]
    refine H.tk (i := 2) (v := .int .i64 (bt s 0)) ?h2x3 hS ?_
    case h2x3 => exact (fun w hw => by go_simp)
    try simp only [Act.put, List.setIfInBounds_toArray, List.set_cons_zero, List.set_cons_succ]
    refine H.tk (i := 3) (v := ?v3x4) ?h3x4 hS ?_
    case h3x4 => (intro w hw; go_simp; first | done | (with_reducible rfl))
    try simp only [Act.put, List.setIfInBounds_toArray, List.set_cons_zero, List.set_cons_succ]
    refine H.tk (i := 4) (v := .int .u8 (bt s 1)) ?h4x5 hS ?_
    case h4x5 => exact (fun w hw => by go_simp)
    try simp only [Act.put, List.setIfInBounds_toArray, List.set_cons_zero, List.set_cons_succ]
    refine H.tk (i := 5) (v := .int .i64 (bt s 1)) ?h5x6 hS ?_
    case h5x6 => exact (fun w hw => by go_simp)
    try simp only [Act.put, List.setIfInBounds_toArray, List.set_cons_zero, List.set_cons_succ]
    refine H.tk (i := 6) (v := ?v6x7) ?h6x7 hS ?_
    case h6x7 => (intro w hw; go_simp; first | done | (with_reducible rfl))
    try simp only [Act.put, List.setIfInBounds_toArray, List.set_cons_zero, List.set_cons_succ]
    refine H.tk (i := 7) (v := .int .u8 (bt s 2)) ?h7x8 hS ?_
    case h7x8 => exact (fun w hw => by go_simp)
    try simp only [Act.put, List.setIfInBounds_toArray, List.set_cons_zero, List.set_cons_succ]
    refine H.tk (i := 8) (v := .int .i64 (bt s 2)) ?h8x9 hS ?_
    case h8x9 => exact (fun w hw => by go_simp)
    try simp only [Act.put, List.setIfInBounds_toArray, List.set_cons_zero, List.set_cons_succ]
    refine H.tk (i := 9) (v := ?v9x10) ?h9x10 hS ?_
    case h9x10 => (intro w hw; go_simp; first | done | (with_reducible rfl))
    try simp only [Act.put, List.setIfInBounds_toArray, List.set_cons_zero, List.set_cons_succ]
    refine H.tk (i := 10) (v := .int .u8 (bt s 3)) ?h10x11 hS ?_
    case h10x11 => exact (fun w hw => by go_simp)
    try simp only [Act.put, List.setIfInBounds_toArray, List.set_cons_zero, List.set_cons_succ]
    refine H.tk (i := 11) (v := .int .i64 (bt s 3)) ?h11x12 hS ?_
    case h11x12 => exact (fun w hw => by go_simp)
    try simp only [Act.put, List.setIfInBounds_toArray, List.set_cons_zero, List.set_cons_succ]
    refine H.tk (i := 12) (v := ?v12x13) ?h12x13 hS ?_
    case h12x13 => (intro w hw; go_simp; first | done | (with_reducible rfl))
    try simp only [Act.put, List.setIfInBounds_toArray, List.set_cons_zero, List.set_cons_succ]
    refine H.tk (i := 13) (v := .string (s.extract 4 6)) ?h13x14 hS ?_
    case h13x14 => exact (fun w hw => by go_simp)
    try simp only [Act.put, List.setIfInBounds_toArray, List.set_cons_zero, List.set_cons_succ]
    refine H.tk (i := 15) (v := ?v15x15) ?h15x15 hS ?_
    case h15x15 => (intro w hw; go_simp; first | done | (with_reducible rfl))
    try simp only [Act.put, List.setIfInBounds_toArray, List.set_cons_zero, List.set_cons_succ]
    refine H.tk (i := 16) (v := .string (s.extract 6 8)) ?h16x16 hS ?_
    case h16x16 => exact (fun w hw => by go_simp)
    try simp only [Act.put, List.setIfInBounds_toArray, List.set_cons_zero, List.set_cons_succ]
    refine H.tk (i := 18) (v := ?v18x17) ?h18x17 hS ?_
    case h18x17 => (intro w hw; go_simp; first | done | (with_reducible rfl))
    try simp only [Act.put, List.setIfInBounds_toArray, List.set_cons_zero, List.set_cons_succ]
    refine H.tk (i := 19) (v := .string (s.extract 8 10)) ?h19x18 hS ?_
    case h19x18 => exact (fun w hw => by go_simp)
    try simp only [Act.put, List.setIfInBounds_toArray, List.set_cons_zero, List.set_cons_succ]
    refine H.two (i := 14) (j := 22) (by simp only [List.getElem?_toArray, List.getElem?_cons_succ, List.getElem?_cons_zero]; rfl) (by kernel_rfl) (by simp only [List.getElem?_toArray, List.getElem?_cons_succ, List.getElem?_cons_zero]; rfl) (by kernel_rfl) (by kernel_rfl) (fun K hK => ?wa19) (fun K hK => ?wb19)
    case wa19 =>
      go_simp
      refine (P4.out _).mono ?_
      rintro e X1 ⟨rfl, hX⟩
      obtain rfl := hX
      refine hK.out _ _ trivial ?_
      clear hK K
      try simp only [Act.put, List.setIfInBounds_toArray, List.set_cons_zero, List.set_cons_succ]
      refine H.two (i := 17) (j := 22) (by simp only [List.getElem?_toArray, List.getElem?_cons_succ, List.getElem?_cons_zero]; rfl) (by kernel_rfl) (by simp only [List.getElem?_toArray, List.getElem?_cons_succ, List.getElem?_cons_zero]; rfl) (by kernel_rfl) (by kernel_rfl) (fun K hK => ?wa20) (fun K hK => ?wb20)
      case wa20 =>
        go_simp
        refine (P6.out _).mono ?_
        rintro e X1 ⟨rfl, hX⟩
        obtain rfl := hX
        refine hK.out _ _ trivial ?_
        clear hK K
        try simp only [Act.put, List.setIfInBounds_toArray, List.set_cons_zero, List.set_cons_succ]
        refine H.two (i := 20) (j := 22) (by simp only [List.getElem?_toArray, List.getElem?_cons_succ, List.getElem?_cons_zero]; rfl) (by kernel_rfl) (by simp only [List.getElem?_toArray, List.getElem?_cons_succ, List.getElem?_cons_zero]; rfl) (by kernel_rfl) (by kernel_rfl) (fun K hK => ?wa21) (fun K hK => ?wb21)
        case wa21 =>
          go_simp
          refine (P8.out _).mono ?_
          rintro e X1 ⟨rfl, hX⟩
          obtain rfl := hX
          refine hK.out _ _ trivial ?_
          clear hK K
          try simp only [Act.put, List.setIfInBounds_toArray, List.set_cons_zero, List.set_cons_succ]
          refine H.tk (i := 21) (v := .agg (Up.cells { Up.zero with ae := bt s 0, flags := bt s 1, plen := bt s 2, om := bt s 3, iv := num2 s 4, seq := num2 s 6, metric := num2 s 8 })) ?h21x22 hS ?_
          case h21x22 => exact (fun w hw => Hx.ex_built rfl (by kernel_rfl))
          try simp only [Act.put, List.setIfInBounds_toArray, List.set_cons_zero, List.set_cons_succ]
          refine H.one (i := 22) (by simp only [List.getElem?_toArray, List.getElem?_cons_succ, List.getElem?_cons_zero]; rfl) (by kernel_rfl) (by kernel_rfl) (fun K hK => ?_)
          go_simp
          refine hK.out _ _ trivial ?_
          clear hK K
          try simp only [Act.put, List.setIfInBounds_toArray, List.set_cons_zero, List.set_cons_succ]
          change wpAnyH _ _ _ _ _ _ _ _ (X0.alloc (.cells Up.zero.cells 111))
          try simp only [Act.put, List.setIfInBounds_toArray, List.set_cons_zero, List.set_cons_succ]
          refine H.storeLast (i := 23) (by simp only [List.getElem?_toArray, List.getElem?_cons_succ, List.getElem?_cons_zero]; rfl) (by kernel_rfl) (by kernel_rfl) rfl rfl X0.heap.size (Up.cells { Up.zero with ae := bt s 0, flags := bt s 1, plen := bt s 2, om := bt s 3, iv := num2 s 4, seq := num2 s 6, metric := num2 s 8 }) rfl rfl 111 Up.zero.cells (heap_alloc_new _ _) infoU rfl (J4.oneU _) trivial ?_
          refine wpAnyH_done (by kernel_rfl) ?_ _
          exact leaf
        case wb21 =>
          go_simp
          refine hK.out _ _ trivial ?_
          clear hK K
          try simp only [Act.put, List.setIfInBounds_toArray, List.set_cons_zero, List.set_cons_succ]
          change wpAnyH _ _ _ _ _ _ _ _ (X0.alloc (.cells Up.zero.cells 111))
          try simp only [Act.put, List.setIfInBounds_toArray, List.set_cons_zero, List.set_cons_succ]
          refine H.one (i := 20) (by simp only [List.getElem?_toArray, List.getElem?_cons_succ, List.getElem?_cons_zero]; rfl) (by kernel_rfl) (by kernel_rfl) (fun K hK => ?_)
          go_simp
          refine (P8.out _).mono ?_
          rintro e X1 ⟨rfl, hX⟩
          obtain rfl := hX
          refine hK.out _ _ trivial ?_
          clear hK K
          try simp only [Act.put, List.setIfInBounds_toArray, List.set_cons_zero, List.set_cons_succ]
          refine H.tk (i := 21) (v := .agg (Up.cells { Up.zero with ae := bt s 0, flags := bt s 1, plen := bt s 2, om := bt s 3, iv := num2 s 4, seq := num2 s 6, metric := num2 s 8 })) ?h21x23 hS ?_
          case h21x23 => exact (fun w hw => Hx.ex_built rfl (by kernel_rfl))
          try simp only [Act.put, List.setIfInBounds_toArray, List.set_cons_zero, List.set_cons_succ]
          refine H.storeLast (i := 23) (by simp only [List.getElem?_toArray, List.getElem?_cons_succ, List.getElem?_cons_zero]; rfl) (by kernel_rfl) (by kernel_rfl) rfl rfl X0.heap.size (Up.cells { Up.zero with ae := bt s 0, flags := bt s 1, plen := bt s 2, om := bt s 3, iv := num2 s 4, seq := num2 s 6, metric := num2 s 8 }) rfl rfl 111 Up.zero.cells (heap_alloc_new _ _) infoU rfl (J4.oneU _) trivial ?_
          refine wpAnyH_done (by kernel_rfl) ?_ _
          exact leaf
      case wb20 =>
        go_simp
        refine hK.out _ _ trivial ?_
        clear hK K
        try simp only [Act.put, List.setIfInBounds_toArray, List.set_cons_zero, List.set_cons_succ]
        change wpAnyH _ _ _ _ _ _ _ _ (X0.alloc (.cells Up.zero.cells 111))
        try simp only [Act.put, List.setIfInBounds_toArray, List.set_cons_zero, List.set_cons_succ]
        refine H.one (i := 17) (by simp only [List.getElem?_toArray, List.getElem?_cons_succ, List.getElem?_cons_zero]; rfl) (by kernel_rfl) (by kernel_rfl) (fun K hK => ?_)
        go_simp
        refine (P6.out _).mono ?_
        rintro e X1 ⟨rfl, hX⟩
        obtain rfl := hX
        refine hK.out _ _ trivial ?_
        clear hK K
        try simp only [Act.put, List.setIfInBounds_toArray, List.set_cons_zero, List.set_cons_succ]
        refine H.one (i := 20) (by simp only [List.getElem?_toArray, List.getElem?_cons_succ, List.getElem?_cons_zero]; rfl) (by kernel_rfl) (by kernel_rfl) (fun K hK => ?_)
        go_simp
        refine (P8.out _).mono ?_
        rintro e X1 ⟨rfl, hX⟩
        obtain rfl := hX
        refine hK.out _ _ trivial ?_
        clear hK K
        try simp only [Act.put, List.setIfInBounds_toArray, List.set_cons_zero, List.set_cons_succ]
        refine H.tk (i := 21) (v := .agg (Up.cells { Up.zero with ae := bt s 0, flags := bt s 1, plen := bt s 2, om := bt s 3, iv := num2 s 4, seq := num2 s 6, metric := num2 s 8 })) ?h21x24 hS ?_
        case h21x24 => exact (fun w hw => Hx.ex_built rfl (by kernel_rfl))
        try simp only [Act.put, List.setIfInBounds_toArray, List.set_cons_zero, List.set_cons_succ]
        refine H.storeLast (i := 23) (by simp only [List.getElem?_toArray, List.getElem?_cons_succ, List.getElem?_cons_zero]; rfl) (by kernel_rfl) (by kernel_rfl) rfl rfl X0.heap.size (Up.cells { Up.zero with ae := bt s 0, flags := bt s 1, plen := bt s 2, om := bt s 3, iv := num2 s 4, seq := num2 s 6, metric := num2 s 8 }) rfl rfl 111 Up.zero.cells (heap_alloc_new _ _) infoU rfl (J4.oneU _) trivial ?_
        refine wpAnyH_done (by kernel_rfl) ?_ _
        exact leaf
    case wb19 =>
      go_simp
      refine hK.out _ _ trivial ?_
      clear hK K
      try simp only [Act.put, List.setIfInBounds_toArray, List.set_cons_zero, List.set_cons_succ]
      change wpAnyH _ _ _ _ _ _ _ _ (X0.alloc (.cells Up.zero.cells 111))
      try simp only [Act.put, List.setIfInBounds_toArray, List.set_cons_zero, List.set_cons_succ]
      refine H.one (i := 14) (by simp only [List.getElem?_toArray, List.getElem?_cons_succ, List.getElem?_cons_zero]; rfl) (by kernel_rfl) (by kernel_rfl) (fun K hK => ?_)
      go_simp
      refine (P4.out _).mono ?_
      rintro e X1 ⟨rfl, hX⟩
      obtain rfl := hX
      refine hK.out _ _ trivial ?_
      clear hK K
      try simp only [Act.put, List.setIfInBounds_toArray, List.set_cons_zero, List.set_cons_succ]
      refine H.one (i := 17) (by simp only [List.getElem?_toArray, List.getElem?_cons_succ, List.getElem?_cons_zero]; rfl) (by kernel_rfl) (by kernel_rfl) (fun K hK => ?_)
      go_simp
      refine (P6.out _).mono ?_
      rintro e X1 ⟨rfl, hX⟩
      obtain rfl := hX
      refine hK.out _ _ trivial ?_
      clear hK K
      try simp only [Act.put, List.setIfInBounds_toArray, List.set_cons_zero, List.set_cons_succ]
      refine H.one (i := 20) (by simp only [List.getElem?_toArray, List.getElem?_cons_succ, List.getElem?_cons_zero]; rfl) (by kernel_rfl) (by kernel_rfl) (fun K hK => ?_)
      go_simp
      refine (P8.out _).mono ?_
      rintro e X1 ⟨rfl, hX⟩
      obtain rfl := hX
      refine hK.out _ _ trivial ?_
      clear hK K
      try simp only [Act.put, List.setIfInBounds_toArray, List.set_cons_zero, List.set_cons_succ]
      refine H.tk (i := 21) (v := .agg (Up.cells { Up.zero with ae := bt s 0, flags := bt s 1, plen := bt s 2, om := bt s 3, iv := num2 s 4, seq := num2 s 6, metric := num2 s 8 })) ?h21x25 hS ?_
      case h21x25 => exact (fun w hw => Hx.ex_built rfl (by kernel_rfl))
      try simp only [Act.put, List.setIfInBounds_toArray, List.set_cons_zero, List.set_cons_succ]
      refine H.storeLast (i := 23) (by simp only [List.getElem?_toArray, List.getElem?_cons_succ, List.getElem?_cons_zero]; rfl) (by kernel_rfl) (by kernel_rfl) rfl rfl X0.heap.size (Up.cells { Up.zero with ae := bt s 0, flags := bt s 1, plen := bt s 2, om := bt s 3, iv := num2 s 4, seq := num2 s 6, metric := num2 s 8 }) rfl rfl 111 Up.zero.cells (heap_alloc_new _ _) infoU rfl (J4.oneU _) trivial ?_
      refine wpAnyH_done (by kernel_rfl) ?_ _
      exact leaf
  rw [World.setRow_alloc_new]
  have XM := Lib.hid (Bk.Bk.new 111 X0 (Up.cells { Up.zero with ae := bt s 0, flags := bt s 1, plen := bt s 2, om := bt s 3, iv := num2 s 4, seq := num2 s 6, metric := num2 s 8 }))
  have hg := HD.out.res.lt
  have HD := Lib.hid (HD.out.call (balloc (Below.refl X0.heap.size X0) (.cells (Up.cells { Up.zero with ae := bt s 0, flags := bt s 1, plen := bt s 2, om := bt s 3, iv := num2 s 4, seq := num2 s 6, metric := num2 s 8 }) 111)))
  generalize X0.alloc (.cells (Up.cells { Up.zero with ae := bt s 0, flags := bt s 1, plen := bt s 2, om := bt s 3, iv := num2 s 4, seq := num2 s 6, metric := num2 s 8 }) 111) = V at *
  generalize X0.heap.size = g at *
  obtain ⟨x, hx⟩ : ∃ x : Up, x = { Up.zero with ae := bt s 0, flags := bt s 1, plen := bt s 2, om := bt s 3, iv := num2 s 4, seq := num2 s 6, metric := num2 s 8 } := ⟨_, rfl⟩
  have c0 : V.cell? ⟨g, 0, none⟩ = some (.int .i64 (bt s 0)) := XM.out.cell 0 _ rfl
  have c2 : V.cell? ⟨g, 2, none⟩ = some (.int .i64 (bt s 2)) := XM.out.cell 2 _ rfl
  have c3 : V.cell? ⟨g, 3, none⟩ = some (.int .i64 (bt s 3)) := XM.out.cell 3 _ rfl
  rw [← hx] at XM
  have HX := Lib.hid hx
  clear hx hS i0 i1 i2 i3 v0 v1 v2 v3 s4 s6 s8 P4 P6 P8
  by_cases k3 : 3 < bt s 0
  · have HY := Lib.hid (outK_no (d := s) (end_none hz k3))
    generalize bt s 0 = y0 at *
    generalize bt s 2 = y2 at *
    generalize bt s 3 = y3 at *
    go_wp2_with (first | (refine wpList_builtK rfl 111 _ rfl (Up.cells Up.zero) (by kernel_rfl) ?_) | (refine wpList_storeU (b := w.heap.size + 1) (m := Up.zero) (m' := Up.zero) rfl _ _ rfl rfl rfl HD.out.res ?_))
    exact bodyPost_ret (v := .tuple #[.agg Up.zero.cells, .bool false, .int .i64 0]) (results_three rfl _ _ (w.heap.size + 1) _ rfl (loadVarK shU (HD.out.res.put Up.zero.cells) rfl) (.bool false) rfl (.int .i64 0) rfl) rfl (AnsU.no HY.out (Box.below_setRow HD.out.bel (by omega) _))
  have PG := Lib.hid (fun V => great_any (bt s 0) (bt s 2) V b0 (by omega) b2)
  cases g1 : lenB (bt s 0) (bt s 2)
  · have HY := Lib.hid (outK_no (d := s) (end_range hz k3 (.inl g1)))
    rw [g1] at PG
    clear g1
    generalize bt s 0 = y0 at *
    generalize bt s 2 = y2 at *
    generalize bt s 3 = y3 at *
    go_wp2_with fail
    refine (PG.out _).mono ?_
    rintro r w' ⟨rfl, rfl⟩
    go_wp2_with (first | (refine wpList_builtK rfl 111 _ rfl (Up.cells Up.zero) (by kernel_rfl) ?_) | (refine wpList_storeU (b := w.heap.size + 1) (m := Up.zero) (m' := Up.zero) rfl _ _ rfl rfl rfl HD.out.res ?_))
    exact bodyPost_ret (v := .tuple #[.agg Up.zero.cells, .bool false, .int .i64 6]) (results_three rfl _ _ (w.heap.size + 1) _ rfl (loadVarK shU (HD.out.res.put Up.zero.cells) rfl) (.bool false) rfl (.int .i64 6) rfl) rfl (AnsU.no HY.out (Box.below_setRow HD.out.bel (by omega) _))
  rw [g1] at PG
  have hcl := count_le g1
  have PL := Lib.hid (fun V => Pre.rleast_any (bt s 2) V (by omega))
  have PB := Lib.hid (fun V => base_any (bt s 0) V)
  obtain ⟨cn, hcn⟩ : ∃ n, countN (bt s 0) (bt s 2) = n := ⟨_, rfl⟩
  obtain ⟨n, hn⟩ : ∃ n : Int, (cn : Int) - bt s 3 = n := ⟨_, rfl⟩
  have HW1 := Lib.hid (show IntKind.i64.wrap ((leastN (bt s 2) : Int) - (baseN (bt s 0) : Int)) = (cn : Int) by rw [IntWalk.i64_in _ ⟨by omega, by omega⟩]; omega)
  have HW2 := Lib.hid (show IntKind.i64.wrap n = n from IntWalk.i64_in _ ⟨by omega, by omega⟩)
  by_cases g2 : n < 0
  · have HY := Lib.hid (outK_no (d := s) (end_range hz k3 (.inr (by rw [hcn]; omega))))
    clear g1 hcl hcn
    generalize leastN (bt s 2) = ln at *
    generalize baseN (bt s 0) = bn at *
    generalize bt s 0 = y0 at *
    generalize bt s 2 = y2 at *
    generalize bt s 3 = y3 at *
    go_wp2_with fail
    refine (PG.out _).mono ?_
    rintro r w' ⟨rfl, rfl⟩
    go_upto_region 9 with fail
    refine wp_region_held_drew (S := fun W => W.cell? ⟨g, 0, none⟩ = some (.int .i64 y0) ∧ W.cell? ⟨g, 2, none⟩ = some (.int .i64 y2) ∧ W.cell? ⟨g, 3, none⟩ = some (.int .i64 y3)) (by kernel_rfl) ⟨c0, c2, c3⟩ (fun hS => ?_)
    have XM := Lib.hid (show Bk 111 V.drew g x.cells from XM.out)
    have HD := Lib.hid HD.out.drew
    clear c0 c2 c3
    generalize V.drew = V at *
    refine H.tk (i := 0) (v := ?v0a) ?h0a hS ?_
    case h0a => (intro w hw; go_simp; first | done | (with_reducible rfl))
    try simp only [Act.put, List.setIfInBounds_toArray, List.set_cons_zero, List.set_cons_succ]
    refine H.tk (i := 1) (v := .int .i64 y2) ?h1a hS ?_
    case h1a => exact (fun w hw => by have c := hw.2.1; go_simp)
    try simp only [Act.put, List.setIfInBounds_toArray, List.set_cons_zero, List.set_cons_succ]
    refine H.tk (i := 3) (v := ?v3a) ?h3a hS ?_
    case h3a => (intro w hw; go_simp; first | done | (with_reducible rfl))
    try simp only [Act.put, List.setIfInBounds_toArray, List.set_cons_zero, List.set_cons_succ]
    refine H.tk (i := 4) (v := .int .i64 y0) ?h4a hS ?_
    case h4a => exact (fun w hw => by have c := hw.1; go_simp)
    try simp only [Act.put, List.setIfInBounds_toArray, List.set_cons_zero, List.set_cons_succ]
    refine H.tk (i := 7) (v := ?v7a) ?h7a hS ?_
    case h7a => (intro w hw; go_simp; first | done | (with_reducible rfl))
    try simp only [Act.put, List.setIfInBounds_toArray, List.set_cons_zero, List.set_cons_succ]
    refine H.tk (i := 8) (v := .int .i64 y3) ?h8a hS ?_
    case h8a => exact (fun w hw => by have c := hw.2.2; go_simp)
    try simp only [Act.put, List.setIfInBounds_toArray, List.set_cons_zero, List.set_cons_succ]
    refine wpAnyH_ready (rs := [2]) (by kernel_rfl) (by simp) ?_
    refine AllReadyH.cons rfl (fun K hK => ?_) AllReadyH.nil
    go_simp
    refine (PL.out _).mono ?_
    rintro e X2 ⟨rfl, rfl⟩
    refine hK.out _ _ hS (fun _ => ?_)
    clear hK K
    try simp only [Act.put, List.setIfInBounds_toArray, List.set_cons_zero, List.set_cons_succ]
    refine wpAnyH_ready (rs := [5]) (by kernel_rfl) (by simp) ?_
    refine AllReadyH.cons rfl (fun K hK => ?_) AllReadyH.nil
    go_simp
    refine (PB.out _).mono ?_
    rintro e X5 ⟨rfl, rfl⟩
    refine hK.out _ _ hS (fun _ => ?_)
    clear hK K
    try simp only [Act.put, List.setIfInBounds_toArray, List.set_cons_zero, List.set_cons_succ]
    refine H.tk (i := 6) (v := .int .i64 (cn : Int)) ?h6a hS ?_
    case h6a => exact (fun w hw => by go_simp; rw [HW1.out])
    try simp only [Act.put, List.setIfInBounds_toArray, List.set_cons_zero, List.set_cons_succ]
    refine H.tk (i := 9) (v := .int .i64 n) ?h9a hS ?_
    case h9a => exact (fun w hw => by go_simp; rw [HW2.out])
    try simp only [Act.put, List.setIfInBounds_toArray, List.set_cons_zero, List.set_cons_succ]
    refine H.tk (i := 10) (v := (.int .i64 n)) (fun w _ => rfl) hS ?_
    try simp only [Act.put, List.setIfInBounds_toArray, List.set_cons_zero, List.set_cons_succ]
    refine wpAnyH_done (by kernel_rfl) ?_ _
    go_wp2_with (first | (refine wpList_builtK rfl 111 _ rfl (Up.cells Up.zero) (by kernel_rfl) ?_) | (refine wpList_storeU (b := w.heap.size + 1) (m := Up.zero) (m' := Up.zero) rfl _ _ rfl rfl rfl HD.out.res ?_))
    exact bodyPost_ret (v := .tuple #[.agg Up.zero.cells, .bool false, .int .i64 6]) (results_three rfl _ _ (w.heap.size + 1) _ rfl (loadVarK shU (HD.out.res.put Up.zero.cells) rfl) (.bool false) rfl (.int .i64 6) rfl) rfl (AnsU.no HY.out (Box.below_setRow HD.out.bel (by omega) _))
  obtain ⟨m, rfl⟩ : ∃ m : Nat, n = m := ⟨n.toNat, by omega⟩
  have hm16 : m ≤ 16 := by have := hcl.1; omega
  have hr : restN 10 (bt s 0) (bt s 2) (bt s 3) = 10 + m := by unfold restN; rw [hcn]; omega
  have g3 : ¬ (countN (bt s 0) (bt s 2) : Int) < bt s 3 := by rw [hcn]; omega
  by_cases c9 : s.size < 10 + m
  · have HY := Lib.hid (outK_no (d := s) (end_cut hz k3 g1 g3 (by rw [hr]; exact c9)))
    have c9' : (s.size : Int) < 10 + (m : Int) := by omega
    clear g1 g3 hcl hcn hr
    generalize leastN (bt s 2) = ln at *
    generalize baseN (bt s 0) = bn at *
    generalize bt s 0 = y0 at *
    generalize bt s 2 = y2 at *
    generalize bt s 3 = y3 at *
    go_wp2_with fail
    refine (PG.out _).mono ?_
    rintro r w' ⟨rfl, rfl⟩
    go_upto_region 9 with fail
    refine wp_region_held_drew (S := fun W => W.cell? ⟨g, 0, none⟩ = some (.int .i64 y0) ∧ W.cell? ⟨g, 2, none⟩ = some (.int .i64 y2) ∧ W.cell? ⟨g, 3, none⟩ = some (.int .i64 y3)) (by kernel_rfl) ⟨c0, c2, c3⟩ (fun hS => ?_)
    have XM := Lib.hid (show Bk 111 V.drew g x.cells from XM.out)
    have HD := Lib.hid HD.out.drew
    clear c0 c2 c3
    generalize V.drew = V at *
    refine H.tk (i := 0) (v := ?v0b) ?h0b hS ?_
    case h0b => (intro w hw; go_simp; first | done | (with_reducible rfl))
    try simp only [Act.put, List.setIfInBounds_toArray, List.set_cons_zero, List.set_cons_succ]
    refine H.tk (i := 1) (v := .int .i64 y2) ?h1b hS ?_
    case h1b => exact (fun w hw => by have c := hw.2.1; go_simp)
    try simp only [Act.put, List.setIfInBounds_toArray, List.set_cons_zero, List.set_cons_succ]
    refine H.tk (i := 3) (v := ?v3b) ?h3b hS ?_
    case h3b => (intro w hw; go_simp; first | done | (with_reducible rfl))
    try simp only [Act.put, List.setIfInBounds_toArray, List.set_cons_zero, List.set_cons_succ]
    refine H.tk (i := 4) (v := .int .i64 y0) ?h4b hS ?_
    case h4b => exact (fun w hw => by have c := hw.1; go_simp)
    try simp only [Act.put, List.setIfInBounds_toArray, List.set_cons_zero, List.set_cons_succ]
    refine H.tk (i := 7) (v := ?v7b) ?h7b hS ?_
    case h7b => (intro w hw; go_simp; first | done | (with_reducible rfl))
    try simp only [Act.put, List.setIfInBounds_toArray, List.set_cons_zero, List.set_cons_succ]
    refine H.tk (i := 8) (v := .int .i64 y3) ?h8b hS ?_
    case h8b => exact (fun w hw => by have c := hw.2.2; go_simp)
    try simp only [Act.put, List.setIfInBounds_toArray, List.set_cons_zero, List.set_cons_succ]
    refine wpAnyH_ready (rs := [2]) (by kernel_rfl) (by simp) ?_
    refine AllReadyH.cons rfl (fun K hK => ?_) AllReadyH.nil
    go_simp
    refine (PL.out _).mono ?_
    rintro e X2 ⟨rfl, rfl⟩
    refine hK.out _ _ hS (fun _ => ?_)
    clear hK K
    try simp only [Act.put, List.setIfInBounds_toArray, List.set_cons_zero, List.set_cons_succ]
    refine wpAnyH_ready (rs := [5]) (by kernel_rfl) (by simp) ?_
    refine AllReadyH.cons rfl (fun K hK => ?_) AllReadyH.nil
    go_simp
    refine (PB.out _).mono ?_
    rintro e X5 ⟨rfl, rfl⟩
    refine hK.out _ _ hS (fun _ => ?_)
    clear hK K
    try simp only [Act.put, List.setIfInBounds_toArray, List.set_cons_zero, List.set_cons_succ]
    refine H.tk (i := 6) (v := .int .i64 (cn : Int)) ?h6b hS ?_
    case h6b => exact (fun w hw => by go_simp; rw [HW1.out])
    try simp only [Act.put, List.setIfInBounds_toArray, List.set_cons_zero, List.set_cons_succ]
    refine H.tk (i := 9) (v := .int .i64 (m : Int)) ?h9b hS ?_
    case h9b => exact (fun w hw => by go_simp; rw [HW2.out])
    try simp only [Act.put, List.setIfInBounds_toArray, List.set_cons_zero, List.set_cons_succ]
    refine H.tk (i := 10) (v := (.int .i64 (m : Int))) (fun w _ => rfl) hS ?_
    try simp only [Act.put, List.setIfInBounds_toArray, List.set_cons_zero, List.set_cons_succ]
    refine wpAnyH_done (by kernel_rfl) ?_ _
    go_wp2_with (first | (refine wpList_builtK rfl 111 _ rfl (Up.cells Up.zero) (by kernel_rfl) ?_) | (refine wpList_storeU (b := w.heap.size + 1) (m := Up.zero) (m' := Up.zero) rfl _ _ rfl rfl rfl HD.out.res ?_))
    exact bodyPost_ret (v := .tuple #[.agg Up.zero.cells, .bool false, .int .i64 2]) (results_three rfl _ _ (w.heap.size + 1) _ rfl (loadVarK shU (HD.out.res.put Up.zero.cells) rfl) (.bool false) rfl (.int .i64 2) rfl) rfl (AnsU.no HY.out (Box.below_setRow HD.out.bel (by omega) _))
  have c9' : ¬ (s.size : Int) < 10 + (m : Int) := by omega
  have slt := sl_l s (10 + (m : Int)) (10 + m) s.size (by omega) (by omega) rfl
  have sla := sl_m s 10 (10 + (m : Int)) 10 (10 + m) rfl (by omega) (by omega) (by omega)
  have PS := Lib.hid (fun V => S6.rget_own (s.extract (10 + m) s.size) V (by simp; omega))
  obtain ⟨⟨l, kn, er⟩, ho⟩ : ∃ q, outS (s.extract (10 + m) s.size) = q := ⟨_, rfl⟩
  rw [ho] at PS
  rw [← hr] at ho
  by_cases he : er = 0
  rotate_left
  · have HY := Lib.hid (outK_no (d := s) (end_sub hz k3 g1 g3 (by rw [hr]; exact c9) ho he))
    have e1 : (er == 0) = false := by simpa using he
    have e2 : (er != 0) = true := by rw [bne, e1]; rfl
    clear he g1 g3 hcl hcn hr ho
    generalize s.extract 10 (10 + m) = ea at *
    generalize s.extract (10 + m) s.size = er2 at *
    generalize leastN (bt s 2) = ln at *
    generalize baseN (bt s 0) = bn at *
    generalize bt s 0 = y0 at *
    generalize bt s 2 = y2 at *
    generalize bt s 3 = y3 at *
    go_wp2_with fail
    refine (PG.out _).mono ?_
    rintro r w' ⟨rfl, rfl⟩
    go_upto_region 9 with fail
    refine wp_region_held_drew (S := fun W => W.cell? ⟨g, 0, none⟩ = some (.int .i64 y0) ∧ W.cell? ⟨g, 2, none⟩ = some (.int .i64 y2) ∧ W.cell? ⟨g, 3, none⟩ = some (.int .i64 y3)) (by kernel_rfl) ⟨c0, c2, c3⟩ (fun hS => ?_)
    have XM := Lib.hid (show Bk 111 V.drew g x.cells from XM.out)
    have HD := Lib.hid HD.out.drew
    clear c0 c2 c3
    generalize V.drew = V at *
    refine H.tk (i := 0) (v := ?v0c) ?h0c hS ?_
    case h0c => (intro w hw; go_simp; first | done | (with_reducible rfl))
    try simp only [Act.put, List.setIfInBounds_toArray, List.set_cons_zero, List.set_cons_succ]
    refine H.tk (i := 1) (v := .int .i64 y2) ?h1c hS ?_
    case h1c => exact (fun w hw => by have c := hw.2.1; go_simp)
    try simp only [Act.put, List.setIfInBounds_toArray, List.set_cons_zero, List.set_cons_succ]
    refine H.tk (i := 3) (v := ?v3c) ?h3c hS ?_
    case h3c => (intro w hw; go_simp; first | done | (with_reducible rfl))
    try simp only [Act.put, List.setIfInBounds_toArray, List.set_cons_zero, List.set_cons_succ]
    refine H.tk (i := 4) (v := .int .i64 y0) ?h4c hS ?_
    case h4c => exact (fun w hw => by have c := hw.1; go_simp)
    try simp only [Act.put, List.setIfInBounds_toArray, List.set_cons_zero, List.set_cons_succ]
    refine H.tk (i := 7) (v := ?v7c) ?h7c hS ?_
    case h7c => (intro w hw; go_simp; first | done | (with_reducible rfl))
    try simp only [Act.put, List.setIfInBounds_toArray, List.set_cons_zero, List.set_cons_succ]
    refine H.tk (i := 8) (v := .int .i64 y3) ?h8c hS ?_
    case h8c => exact (fun w hw => by have c := hw.2.2; go_simp)
    try simp only [Act.put, List.setIfInBounds_toArray, List.set_cons_zero, List.set_cons_succ]
    refine wpAnyH_ready (rs := [2]) (by kernel_rfl) (by simp) ?_
    refine AllReadyH.cons rfl (fun K hK => ?_) AllReadyH.nil
    go_simp
    refine (PL.out _).mono ?_
    rintro e X2 ⟨rfl, rfl⟩
    refine hK.out _ _ hS (fun _ => ?_)
    clear hK K
    try simp only [Act.put, List.setIfInBounds_toArray, List.set_cons_zero, List.set_cons_succ]
    refine wpAnyH_ready (rs := [5]) (by kernel_rfl) (by simp) ?_
    refine AllReadyH.cons rfl (fun K hK => ?_) AllReadyH.nil
    go_simp
    refine (PB.out _).mono ?_
    rintro e X5 ⟨rfl, rfl⟩
    refine hK.out _ _ hS (fun _ => ?_)
    clear hK K
    try simp only [Act.put, List.setIfInBounds_toArray, List.set_cons_zero, List.set_cons_succ]
    refine H.tk (i := 6) (v := .int .i64 (cn : Int)) ?h6c hS ?_
    case h6c => exact (fun w hw => by go_simp; rw [HW1.out])
    try simp only [Act.put, List.setIfInBounds_toArray, List.set_cons_zero, List.set_cons_succ]
    refine H.tk (i := 9) (v := .int .i64 (m : Int)) ?h9c hS ?_
    case h9c => exact (fun w hw => by go_simp; rw [HW2.out])
    try simp only [Act.put, List.setIfInBounds_toArray, List.set_cons_zero, List.set_cons_succ]
    refine H.tk (i := 10) (v := (.int .i64 (m : Int))) (fun w _ => rfl) hS ?_
    try simp only [Act.put, List.setIfInBounds_toArray, List.set_cons_zero, List.set_cons_succ]
    refine wpAnyH_done (by kernel_rfl) ?_ _
    go_wp2_with fail
    refine (PS.out _).mono ?_
    rintro e w4 ⟨sa, sc, rfl, hl, hb⟩
    have hgl := XM.out.lt
    have hsw := HD.out.bel.size
    have HD := Lib.hid (HD.out.call hb)
    have XM := Lib.hid (XM.out.below hb)
    have HL := Lib.hid hl
    clear hb hl PS
    simp only [] at HL
    go_wp2_with (first | (refine wpList_builtK rfl 111 _ rfl (Up.cells Up.zero) (by kernel_rfl) ?_) | (refine wpList_storeU (b := w.heap.size + 1) (m := Up.zero) (m' := Up.zero) rfl _ _ rfl rfl rfl HD.out.res ?_))
    exact bodyPost_ret (v := .tuple #[.agg Up.zero.cells, .bool false, .int .i64 er]) (results_three rfl _ _ (w.heap.size + 1) _ rfl (loadVarK shU (HD.out.res.put Up.zero.cells) rfl) (.bool false) rfl (.int .i64 er) rfl) rfl (AnsU.no HY.out (Box.below_setRow HD.out.bel (by omega) _))
  subst he
  have HE := Lib.hid (outK_yes (end_yes hz k3 g1 g3 (by rw [hr]; exact c9) ho))
  rw [hr] at HE
  have HE := Lib.hid (show outK s = ({ x with hav := if kn = true then 1 else 0, bytes := s.extract 10 (10 + m), sl := l }, true, 0) by rw [HE.out, HX.out]; rfl)
  have HS := Lib.hid (show x.hav = 0 ∧ x.bytes = ByteArray.empty ∧ x.sa = none ∧ x.sl = [] ∧ x.sc = 0 by rw [HX.out]; exact ⟨rfl, rfl, rfl, rfl, rfl⟩)
  clear HX
  clear g1 g3 hcl hcn hr ho
  generalize s.extract 10 (10 + m) = ea at *
  generalize s.extract (10 + m) s.size = er2 at *
  generalize leastN (bt s 2) = ln at *
  generalize baseN (bt s 0) = bn at *
  generalize bt s 0 = y0 at *
  generalize bt s 2 = y2 at *
  generalize bt s 3 = y3 at *
  go_wp2_with fail
  refine (PG.out _).mono ?_
  rintro r w' ⟨rfl, rfl⟩
  go_upto_region 9 with fail
  refine wp_region_held_drew (S := fun W => W.cell? ⟨g, 0, none⟩ = some (.int .i64 y0) ∧ W.cell? ⟨g, 2, none⟩ = some (.int .i64 y2) ∧ W.cell? ⟨g, 3, none⟩ = some (.int .i64 y3)) (by kernel_rfl) ⟨c0, c2, c3⟩ (fun hS => ?_)
  have XM := Lib.hid (show Bk 111 V.drew g x.cells from XM.out)
  have HD := Lib.hid HD.out.drew
  clear c0 c2 c3
  generalize V.drew = V at *
  refine H.tk (i := 0) (v := ?v0d) ?h0d hS ?_
  case h0d => (intro w hw; go_simp; first | done | (with_reducible rfl))
  try simp only [Act.put, List.setIfInBounds_toArray, List.set_cons_zero, List.set_cons_succ]
  refine H.tk (i := 1) (v := .int .i64 y2) ?h1d hS ?_
  case h1d => exact (fun w hw => by have c := hw.2.1; go_simp)
  try simp only [Act.put, List.setIfInBounds_toArray, List.set_cons_zero, List.set_cons_succ]
  refine H.tk (i := 3) (v := ?v3d) ?h3d hS ?_
  case h3d => (intro w hw; go_simp; first | done | (with_reducible rfl))
  try simp only [Act.put, List.setIfInBounds_toArray, List.set_cons_zero, List.set_cons_succ]
  refine H.tk (i := 4) (v := .int .i64 y0) ?h4d hS ?_
  case h4d => exact (fun w hw => by have c := hw.1; go_simp)
  try simp only [Act.put, List.setIfInBounds_toArray, List.set_cons_zero, List.set_cons_succ]
  refine H.tk (i := 7) (v := ?v7d) ?h7d hS ?_
  case h7d => (intro w hw; go_simp; first | done | (with_reducible rfl))
  try simp only [Act.put, List.setIfInBounds_toArray, List.set_cons_zero, List.set_cons_succ]
  refine H.tk (i := 8) (v := .int .i64 y3) ?h8d hS ?_
  case h8d => exact (fun w hw => by have c := hw.2.2; go_simp)
  try simp only [Act.put, List.setIfInBounds_toArray, List.set_cons_zero, List.set_cons_succ]
  refine wpAnyH_ready (rs := [2]) (by kernel_rfl) (by simp) ?_
  refine AllReadyH.cons rfl (fun K hK => ?_) AllReadyH.nil
  go_simp
  refine (PL.out _).mono ?_
  rintro e X2 ⟨rfl, rfl⟩
  refine hK.out _ _ hS (fun _ => ?_)
  clear hK K
  try simp only [Act.put, List.setIfInBounds_toArray, List.set_cons_zero, List.set_cons_succ]
  refine wpAnyH_ready (rs := [5]) (by kernel_rfl) (by simp) ?_
  refine AllReadyH.cons rfl (fun K hK => ?_) AllReadyH.nil
  go_simp
  refine (PB.out _).mono ?_
  rintro e X5 ⟨rfl, rfl⟩
  refine hK.out _ _ hS (fun _ => ?_)
  clear hK K
  try simp only [Act.put, List.setIfInBounds_toArray, List.set_cons_zero, List.set_cons_succ]
  refine H.tk (i := 6) (v := .int .i64 (cn : Int)) ?h6d hS ?_
  case h6d => exact (fun w hw => by go_simp; rw [HW1.out])
  try simp only [Act.put, List.setIfInBounds_toArray, List.set_cons_zero, List.set_cons_succ]
  refine H.tk (i := 9) (v := .int .i64 (m : Int)) ?h9d hS ?_
  case h9d => exact (fun w hw => by go_simp; rw [HW2.out])
  try simp only [Act.put, List.setIfInBounds_toArray, List.set_cons_zero, List.set_cons_succ]
  refine H.tk (i := 10) (v := (.int .i64 (m : Int))) (fun w _ => rfl) hS ?_
  try simp only [Act.put, List.setIfInBounds_toArray, List.set_cons_zero, List.set_cons_succ]
  refine wpAnyH_done (by kernel_rfl) ?_ _
  go_wp2_with fail
  refine (PS.out _).mono ?_
  rintro e w4 ⟨sa, sc, rfl, hl, hb⟩
  have hgl := XM.out.lt
  have hsw := HD.out.bel.size
  have HD := Lib.hid (HD.out.call hb)
  have XM := Lib.hid (XM.out.below hb)
  have HL := Lib.hid hl
  clear hb hl PS
  simp only [] at HL
  have d8 := XM.out.cell 8 _ rfl
  have fd8 := XM.out.frozen 8
  have d9 := XM.out.cell 9 _ rfl
  have fd9 := XM.out.frozen 9
  go_upto_region 18 with fail
  have XM := Lib.hid (XM.out.set (i := 8) (v := .string ea) (cs' := Up.cells { x with bytes := ea }) rfl)
  have XM := Lib.hid (XM.out.set (i := 9) (v := .slice sa l.length sc) (cs' := Up.cells { x with bytes := ea, sa := sa, sl := l, sc := sc }) rfl)
  have HD := Lib.hid ((HD.out.cell hg 8 (.string ea)).cell hg 9 (.slice sa l.length sc))
  have HL := Lib.hid (lst_cell (u := .slice sa l.length sc) (p := ⟨g, 9, none⟩) (lst_cell (u := .string ea) (p := ⟨g, 8, none⟩) HL.out (by show g < _; omega)) (by show g < _; omega))
  clear d8 fd8 d9 fd9
  generalize (w4.setCell ⟨g, 8, none⟩ (.string ea)).setCell ⟨g, 9, none⟩ (.slice sa l.length sc) = V5 at *
  cases kn with
  | false =>
    have HY := Lib.hid (show outK s = ({ ({ x with bytes := ea } : Up) with sl := l }, true, 0) by rw [HE.out]; obtain ⟨_, _, _, _, _, _, _, xh, _, _, _, _⟩ := x; obtain rfl : xh = 0 := HS.out.1; rfl)
    go_wp2_with (first | (refine wpList_loadU (b := g) (m := { x with bytes := ea, sa := sa, sl := l, sc := sc }) rfl _ rfl rfl XM.out ?_) | (refine wpList_storeU (b := w.heap.size + 1) (m := Up.zero) (m' := { x with bytes := ea, sa := sa, sl := l, sc := sc }) rfl _ _ rfl rfl rfl HD.out.res ?_))
    exact bodyPost_ret (v := .tuple #[.agg (Up.cells { x with bytes := ea, sa := sa, sl := l, sc := sc }), .bool true, .int .i64 0]) (results_three rfl _ _ (w.heap.size + 1) _ rfl (loadVarK shU (HD.out.res.put (Up.cells { x with bytes := ea, sa := sa, sl := l, sc := sc })) rfl) (.bool true) rfl (.int .i64 0) rfl) rfl (AnsU.yes (r := { x with bytes := ea }) HY.out (lst_under HL.out (by omega) _) hsw (Box.below_setRow HD.out.bel (by omega) _))
  | true =>
    have HY := Lib.hid (show outK s = ({ ({ x with hav := 1, bytes := ea } : Up) with sl := l }, true, 0) by rw [HE.out]; rfl)
    have d := XM.out.cell 7 _ rfl
    have fd := XM.out.frozen 7
    go_upto_region 20 with fail
    have XM := Lib.hid (XM.out.set (i := 7) (v := .int .i64 1) (cs' := Up.cells { x with hav := 1, bytes := ea, sa := sa, sl := l, sc := sc }) rfl)
    have HD := Lib.hid (HD.out.cell hg 7 (.int .i64 1))
    have HL := Lib.hid (lst_cell (u := .int .i64 1) (p := ⟨g, 7, none⟩) HL.out (by show g < _; omega))
    clear d fd
    generalize V5.setCell ⟨g, 7, none⟩ (.int .i64 1) = V9 at *
    go_wp2_with (first | (refine wpList_loadU (b := g) (m := { x with hav := 1, bytes := ea, sa := sa, sl := l, sc := sc }) rfl _ rfl rfl XM.out ?_) | (refine wpList_storeU (b := w.heap.size + 1) (m := Up.zero) (m' := { x with hav := 1, bytes := ea, sa := sa, sl := l, sc := sc }) rfl _ _ rfl rfl rfl HD.out.res ?_))
    exact bodyPost_ret (v := .tuple #[.agg (Up.cells { x with hav := 1, bytes := ea, sa := sa, sl := l, sc := sc }), .bool true, .int .i64 0]) (results_three rfl _ _ (w.heap.size + 1) _ rfl (loadVarK shU (HD.out.res.put (Up.cells { x with hav := 1, bytes := ea, sa := sa, sl := l, sc := sc })) rfl) (.bool true) rfl (.int .i64 0) rfl) rfl (AnsU.yes (r := { x with hav := 1, bytes := ea }) HY.out (lst_under HL.out (by omega) _) hsw (Box.below_setRow HD.out.bel (by omega) _))
end Go.Proofs.YtfegdblaohhdoaaGreatDoor.Jt
