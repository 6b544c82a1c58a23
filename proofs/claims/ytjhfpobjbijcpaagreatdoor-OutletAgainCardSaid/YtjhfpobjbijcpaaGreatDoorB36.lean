/-
  The document's next hop and message: what a next hop's TLV makes, the message of an Update. Conditions: at most 100000 bytes; the Update counts.
-/
import Derived.Test.YtjhfpobjbijcpaaGreatDoorB19
import Derived.Test.YtjhfpobjbijcpaaGreatDoorB34
import Derived.Test.YtjhfpobjbijcpaaGreatDoorB35
namespace Go.Proofs.YtjhfpobjbijcpaaGreatDoor.K7
open Go.ChangeShapes Go.WideShapes Go.ChangeAt Go.RowKit
open Go.Proofs.YtjhfpobjbijcpaaGreatDoor.Ms
open Go.Proofs.YtjhfpobjbijcpaaGreatDoor.Box
open Go.Proofs.YtjhfpobjbijcpaaGreatDoor.S1
open Go.Proofs.YtjhfpobjbijcpaaGreatDoor.J1
open Go.Proofs.YtjhfpobjbijcpaaGreatDoor.J2 (nil_eq nil_em size_eq)
open Go.Proofs.YtjhfpobjbijcpaaGreatDoor.J4 (shU wpList_loadU wpList_storeU)
open Go.Proofs.YtjhfpobjbijcpaaGreatDoor.An
open Go.Proofs.YtjhfpobjbijcpaaGreatDoor.Tc
open Go.Proofs.YtjhfpobjbijcpaaGreatDoor.K1
open Go.Proofs.YtjhfpobjbijcpaaGreatDoor.Kb
open Go.Proofs.YtjhfpobjbijcpaaGreatDoor.K2
open Go.Proofs.YtjhfpobjbijcpaaGreatDoor.K3 (lgC)
open Go.Proofs.YtjhfpobjbijcpaaGreatDoor.K4
open Go.Proofs.YtjhfpobjbijcpaaGreatDoor.Lk (lgA lgO rlong_any)
open Go.Proofs.YtjhfpobjbijcpaaGreatDoor.F1 (bt bt_nn bt_lt)
open Go.Proofs.YtjhfpobjbijcpaaGreatDoor.F2 (idx sl_m sl_l)
open Go.Proofs.YtjhfpobjbijcpaaGreatDoor.Hx (conv8)
open Go.Proofs.YtjhfpobjbijcpaaGreatDoor.Tl (cellsT)
open Go.Proofs.YtjhfpobjbijcpaaGreatDoor.Bk (Bk Sh alloc_size wpList_loadK wpList_storeK run_loadK results_pair loadVarK wpList_builtK)
open Go.Proofs.YtjhfpobjbijcpaaGreatDoor.Hs
open Go.Proofs.YtjhfpobjbijcpaaGreatDoor.Or (st_yes)
set_option linter.unusedVariables false
set_option maxRecDepth 100000
set_option maxRecDepth 100000
theorem len_any (x : Int) (h0 : 0 ≤ x) (h3 : x ≤ 3) (w : World) : Calls Tryz.prog 91 #[.int .i64 x] w fun e w' => e = .returned (.int .i64 (sizeA x : Int)) ∧ Below w.heap.size w w' := by
  rcases (show x = 0 ∨ x = 1 ∨ x = 2 ∨ x = 3 by omega) with rfl | rfl | rfl | rfl
  all_goals
    go_enter Tryz.func91, Tryz.ntmps91
    go_wp2
    go_ret
    exact ⟨rfl, balloc (Below.refl _ _) _⟩
theorem fixed_any (d : ByteArray) (z : Nat) (zi : Int) (hzi : zi = z) (w : World) (hs : d.size ≤ 100000) (hz : z ≤ 100) :
    Calls Tryz.prog 87 #[.string d, .int .i64 zi] w fun e w' => e = .returned (.tuple #[.bool (fixO d z).1, .int .i64 (fixO d z).2]) ∧ Below w.heap.size w w' := by
  subst hzi
  by_cases h : d.size < z
  · have HY := Lib.hid (fix_short h)
    have h2 : (d.size : Int) < (z : Int) := by omega
    go_enter Tryz.func87, Tryz.ntmps87
    go_wp2
    go_ret2
    exact ⟨by first | (rw [HY.out]; done) | (rw [HY.out]; rfl), Below.refl _ _⟩
  have h2 : ¬ (d.size : Int) < (z : Int) := by omega
  have HY := Lib.hid (fix_long h)
  have PS := Lib.hid (fun V => S6.rget_own (d.extract z d.size) V (by simp; omega))
  have slt := sl_l d (z : Int) z d.size rfl (by omega) rfl
  obtain ⟨⟨l, kn, er⟩, ho⟩ : ∃ q, outS (d.extract z d.size) = q := ⟨_, rfl⟩
  rw [ho] at PS HY
  clear ho h hs hz
  generalize d.extract z d.size = ea at *
  go_enter Tryz.func87, Tryz.ntmps87
  go_wp2_with fail
  refine (PS.out _).mono ?_
  rintro e w1 ⟨qa, qc, rfl, hl, hb⟩
  clear hl
  go_wp2
  go_ret2
  exact ⟨by first | (rw [HY.out]; done) | (rw [HY.out]; rfl), hb⟩
set_option maxHeartbeats 12800000 in
theorem hop_any (c : Kx) (d : ByteArray) (w : World) (hs : d.size ≤ 100000) :
    Calls Tryz.prog 88 #[.agg c.cells, .string d] w fun e w' => e = .returned (.tuple #[.agg (out7 c d).1.cells, .int .i64 (out7 c d).2.2]) ∧ Below w.heap.size w w' := by
  by_cases hz : d.size < 2
  · have HY := Lib.hid (show out7 c d = (c, [], 2) by unfold out7; rw [if_pos hz])
    have hz2 : (d.size : Int) < 2 := by omega
    go_enter Tryz.func88, Tryz.ntmps88
    go_upto_region 1 with fail
    change Code.wp _ _ _ _ ((w.alloc (.cells c.cells 44)).alloc (.cells Kx.zero.cells 44))
    have S0 := Lib.hid ((Bk.Bk.new 44 w c.cells).old (.cells Kx.zero.cells 44))
    have R0 := Bk.Bk.new 44 (w.alloc (.cells c.cells 44)) Kx.zero.cells
    rw [alloc_size] at R0
    have R0 := Lib.hid R0
    have HB := Lib.hid (balloc (balloc (Below.refl _ w) (.cells c.cells 44)) (.cells Kx.zero.cells 44))
    generalize (w.alloc (.cells c.cells 44)).alloc (.cells Kx.zero.cells 44) = W at *
    go_wp2_with (first | (refine wpList_loadX (b := w.heap.size) (m := c) rfl _ rfl rfl S0.out ?_) | (refine wpList_storeX (b := w.heap.size + 1) (m := Kx.zero) (m' := c) rfl _ _ rfl rfl rfl R0.out ?_))
    exact bodyPost_ret (v := .tuple #[.agg (Kx.cells c), .int .i64 2]) (results_pair rfl _ _ (w.heap.size + 1) _ rfl (loadVarK shX (R0.out.put (Kx.cells c)) rfl) (.int .i64 2) rfl) rfl ⟨by first | (rw [HY.out]; done) | (rw [HY.out]; rfl), Box.below_setRow HB.out (by omega) _⟩
  have hz2 : ¬ (d.size : Int) < 2 := by omega
  have i0 := idx d 0 0 rfl (by omega)
  have b0 := bt_nn d 0
  have b1 := bt_lt d 0
  have v0 := conv8 (bt d 0) b0 b1
  by_cases hn : bt d 0 = 0
  · have HY := Lib.hid (show out7 c d = (c, [], 0) by unfold out7; rw [if_neg hz, if_pos (.inl hn)])
    rw [hn] at i0 v0
    clear hn hz hs b0 b1
    go_enter Tryz.func88, Tryz.ntmps88
    go_upto_region 1 with fail
    change Code.wp _ _ _ _ ((w.alloc (.cells c.cells 44)).alloc (.cells Kx.zero.cells 44))
    have S0 := Lib.hid ((Bk.Bk.new 44 w c.cells).old (.cells Kx.zero.cells 44))
    have R0 := Bk.Bk.new 44 (w.alloc (.cells c.cells 44)) Kx.zero.cells
    rw [alloc_size] at R0
    have R0 := Lib.hid R0
    have HB := Lib.hid (balloc (balloc (Below.refl _ w) (.cells c.cells 44)) (.cells Kx.zero.cells 44))
    generalize (w.alloc (.cells c.cells 44)).alloc (.cells Kx.zero.cells 44) = W at *
    go_wp2_with (first | (refine wpList_loadX (b := w.heap.size) (m := c) rfl _ rfl rfl S0.out ?_) | (refine wpList_storeX (b := w.heap.size + 1) (m := Kx.zero) (m' := c) rfl _ _ rfl rfl rfl R0.out ?_))
    exact bodyPost_ret (v := .tuple #[.agg (Kx.cells c), .int .i64 0]) (results_pair rfl _ _ (w.heap.size + 1) _ rfl (loadVarK shX (R0.out.put (Kx.cells c)) rfl) (.int .i64 0) rfl) rfl ⟨by first | (rw [HY.out]; done) | (rw [HY.out]; rfl), Box.below_setRow HB.out (by omega) _⟩
  have hn0 : (bt d 0 == 0) = false := by simpa using hn
  by_cases hn3 : 3 < bt d 0
  · have HY := Lib.hid (show out7 c d = (c, [], 0) by unfold out7; rw [if_neg hz, if_pos (.inr hn3)])
    clear hn hz hs b0 b1
    generalize bt d 0 = y0 at *
    go_enter Tryz.func88, Tryz.ntmps88
    go_upto_region 1 with fail
    change Code.wp _ _ _ _ ((w.alloc (.cells c.cells 44)).alloc (.cells Kx.zero.cells 44))
    have S0 := Lib.hid ((Bk.Bk.new 44 w c.cells).old (.cells Kx.zero.cells 44))
    have R0 := Bk.Bk.new 44 (w.alloc (.cells c.cells 44)) Kx.zero.cells
    rw [alloc_size] at R0
    have R0 := Lib.hid R0
    have HB := Lib.hid (balloc (balloc (Below.refl _ w) (.cells c.cells 44)) (.cells Kx.zero.cells 44))
    generalize (w.alloc (.cells c.cells 44)).alloc (.cells Kx.zero.cells 44) = W at *
    go_wp2_with (first | (refine wpList_loadX (b := w.heap.size) (m := c) rfl _ rfl rfl S0.out ?_) | (refine wpList_storeX (b := w.heap.size + 1) (m := Kx.zero) (m' := c) rfl _ _ rfl rfl rfl R0.out ?_))
    exact bodyPost_ret (v := .tuple #[.agg (Kx.cells c), .int .i64 0]) (results_pair rfl _ _ (w.heap.size + 1) _ rfl (loadVarK shX (R0.out.put (Kx.cells c)) rfl) (.int .i64 0) rfl) rfl ⟨by first | (rw [HY.out]; done) | (rw [HY.out]; rfl), Box.below_setRow HB.out (by omega) _⟩
  rcases (show bt d 0 = 1 ∨ bt d 0 = 2 ∨ bt d 0 = 3 by omega) with e | e | e
  · have HY0 := Lib.hid (show out7 c d = if (fixO d 6).2 = 0 ∧ (fixO d 6).1 = true then ({ c with n0 := lgC 1 (d.extract 2 6) }, [], 0) else (c, [], (fixO d 6).2) from by
      unfold out7
      rw [if_neg hz, if_neg (by omega), e]
      rfl)
    have PL := Lib.hid (fun V => len_any 1 (by decide) (by decide) V)
    have PL := Lib.hid (show ∀ V, Calls Tryz.prog 91 #[.int .i64 1] V fun e w' => e = .returned (.int .i64 4) ∧ Below V.heap.size V w' from PL.out)
    have PX := Lib.hid (fun V => fixed_any d 6 6 rfl V hs (by decide))
    have hfs := fix_short (d := d) (z := 6)
    obtain ⟨⟨kn, er⟩, ho⟩ : ∃ q, fixO d 6 = q := ⟨_, rfl⟩
    rw [ho] at PX HY0 hfs
    rw [e] at i0 v0
    by_cases he : er = 0
    rotate_left
    · have HY := Lib.hid (HY0.out.trans (if_neg (fun h => he h.1)))
      have e1 : (er == 0) = false := by simpa using he
      have e2 : (er != 0) = true := by rw [bne, e1]; rfl
      clear he
      clear HY0 hfs ho hn hn0 hn3 hz hs b0 b1 e
      go_enter Tryz.func88, Tryz.ntmps88
      go_upto_region 1 with fail
      change Code.wp _ _ _ _ ((w.alloc (.cells c.cells 44)).alloc (.cells Kx.zero.cells 44))
      have S0 := Lib.hid ((Bk.Bk.new 44 w c.cells).old (.cells Kx.zero.cells 44))
      have R0 := Bk.Bk.new 44 (w.alloc (.cells c.cells 44)) Kx.zero.cells
      rw [alloc_size] at R0
      have R0 := Lib.hid R0
      have HB := Lib.hid (balloc (balloc (Below.refl _ w) (.cells c.cells 44)) (.cells Kx.zero.cells 44))
      generalize (w.alloc (.cells c.cells 44)).alloc (.cells Kx.zero.cells 44) = W at *
      go_wp2_with fail
      refine (PL.out _).mono ?_
      rintro r w1 ⟨rfl, hb⟩
      have S0 := Lib.hid (S0.out.below hb)
      have R0 := Lib.hid (R0.out.below hb)
      have HB := Lib.hid (bcall HB.out hb)
      clear hb
      go_wp2_with fail
      refine (PX.out _).mono ?_
      rintro r w2 ⟨rfl, hb⟩
      have S0 := Lib.hid (S0.out.below hb)
      have R0 := Lib.hid (R0.out.below hb)
      have HB := Lib.hid (bcall HB.out hb)
      clear hb
      go_wp2_with (first | (refine wpList_loadX (b := w.heap.size) (m := c) rfl _ rfl rfl S0.out ?_) | (refine wpList_storeX (b := w.heap.size + 1) (m := Kx.zero) (m' := c) rfl _ _ rfl rfl rfl R0.out ?_))
      exact bodyPost_ret (v := .tuple #[.agg (Kx.cells c), .int .i64 er]) (results_pair rfl _ _ (w.heap.size + 1) _ rfl (loadVarK shX (R0.out.put (Kx.cells c)) rfl) (.int .i64 er) rfl) rfl ⟨by first | (rw [HY.out]; done) | (rw [HY.out]; rfl), Box.below_setRow HB.out (by omega) _⟩
    subst he
    cases kn with
    | false =>
      have HY := Lib.hid (HY0.out.trans (if_neg (fun h => by cases h.2)))
      clear HY0 hfs ho hn hn0 hn3 hz hs b0 b1 e
      go_enter Tryz.func88, Tryz.ntmps88
      go_upto_region 1 with fail
      change Code.wp _ _ _ _ ((w.alloc (.cells c.cells 44)).alloc (.cells Kx.zero.cells 44))
      have S0 := Lib.hid ((Bk.Bk.new 44 w c.cells).old (.cells Kx.zero.cells 44))
      have R0 := Bk.Bk.new 44 (w.alloc (.cells c.cells 44)) Kx.zero.cells
      rw [alloc_size] at R0
      have R0 := Lib.hid R0
      have HB := Lib.hid (balloc (balloc (Below.refl _ w) (.cells c.cells 44)) (.cells Kx.zero.cells 44))
      generalize (w.alloc (.cells c.cells 44)).alloc (.cells Kx.zero.cells 44) = W at *
      go_wp2_with fail
      refine (PL.out _).mono ?_
      rintro r w1 ⟨rfl, hb⟩
      have S0 := Lib.hid (S0.out.below hb)
      have R0 := Lib.hid (R0.out.below hb)
      have HB := Lib.hid (bcall HB.out hb)
      clear hb
      go_wp2_with fail
      refine (PX.out _).mono ?_
      rintro r w2 ⟨rfl, hb⟩
      have S0 := Lib.hid (S0.out.below hb)
      have R0 := Lib.hid (R0.out.below hb)
      have HB := Lib.hid (bcall HB.out hb)
      clear hb
      go_wp2_with (first | (refine wpList_loadX (b := w.heap.size) (m := c) rfl _ rfl rfl S0.out ?_) | (refine wpList_storeX (b := w.heap.size + 1) (m := Kx.zero) (m' := c) rfl _ _ rfl rfl rfl R0.out ?_))
      exact bodyPost_ret (v := .tuple #[.agg (Kx.cells c), .int .i64 0]) (results_pair rfl _ _ (w.heap.size + 1) _ rfl (loadVarK shX (R0.out.put (Kx.cells c)) rfl) (.int .i64 0) rfl) rfl ⟨by first | (rw [HY.out]; done) | (rw [HY.out]; rfl), Box.below_setRow HB.out (by omega) _⟩
    | true =>
      have HY := Lib.hid (HY0.out.trans (if_pos ⟨rfl, rfl⟩))
      have hzz : 6 ≤ d.size := by
        by_cases h : d.size < 6
        · have := hfs h
          cases this
        · omega
      have sla := sl_m d 2 6 2 6 rfl rfl (by omega) (by omega)
      have HG := Lib.hid (show lgC 1 (d.extract 2 6) = d.extract 2 6 from rfl)
      rw [HG.out] at HY
      clear HG
      generalize d.extract 2 6 = eb at *
      have PF := Lib.hid (fun V => rfam_any 1 V)
      have PF := Lib.hid (show ∀ V, Calls Tryz.prog 38 #[.int .i64 1] V fun e w' => e = .returned (.int .i64 0) ∧ V = w' from PF.out)
      clear HY0 hfs ho hn hn0 hn3 hz hs b0 b1 e
      clear hzz
      go_enter Tryz.func88, Tryz.ntmps88
      go_upto_region 1 with fail
      change Code.wp _ _ _ _ ((w.alloc (.cells c.cells 44)).alloc (.cells Kx.zero.cells 44))
      have S0 := Lib.hid ((Bk.Bk.new 44 w c.cells).old (.cells Kx.zero.cells 44))
      have R0 := Bk.Bk.new 44 (w.alloc (.cells c.cells 44)) Kx.zero.cells
      rw [alloc_size] at R0
      have R0 := Lib.hid R0
      have HB := Lib.hid (balloc (balloc (Below.refl _ w) (.cells c.cells 44)) (.cells Kx.zero.cells 44))
      generalize (w.alloc (.cells c.cells 44)).alloc (.cells Kx.zero.cells 44) = W at *
      go_wp2_with fail
      refine (PL.out _).mono ?_
      rintro r w1 ⟨rfl, hb⟩
      have S0 := Lib.hid (S0.out.below hb)
      have R0 := Lib.hid (R0.out.below hb)
      have HB := Lib.hid (bcall HB.out hb)
      clear hb
      go_wp2_with fail
      refine (PX.out _).mono ?_
      rintro r w2 ⟨rfl, hb⟩
      have S0 := Lib.hid (S0.out.below hb)
      have R0 := Lib.hid (R0.out.below hb)
      have HB := Lib.hid (bcall HB.out hb)
      clear hb
      go_wp2_with fail
      refine (PF.out _).mono ?_
      rintro r w' ⟨rfl, rfl⟩
      have d0 := S0.out.cell 4 _ rfl
      have fd := S0.out.frozen 4
      go_upto_region 14 with fail
      have XS := S0.out.set (i := 4) (v := .string eb) (cs' := Kx.cells { c with n0 := eb }) rfl
      have XR := R0.out.off (p := ⟨w.heap.size, 4, none⟩) (by show w.heap.size + 1 ≠ w.heap.size; omega) (.string eb)
      have XB := HB.out.setCell (p := ⟨w.heap.size, 4, none⟩) (by show w.heap.size ≤ w.heap.size; omega) (.string eb)
      have S0 := Lib.hid XS
      have R0 := Lib.hid XR
      have HB := Lib.hid XB
      clear XS XR XB d0 fd
      generalize World.setCell _ ⟨w.heap.size, 4, none⟩ (.string eb) = W2 at *
      go_wp2_with (first | (refine wpList_loadX (b := w.heap.size) (m := ({ c with n0 := eb } : Kx)) rfl _ rfl rfl S0.out ?_) | (refine wpList_storeX (b := w.heap.size + 1) (m := Kx.zero) (m' := ({ c with n0 := eb } : Kx)) rfl _ _ rfl rfl rfl R0.out ?_))
      exact bodyPost_ret (v := .tuple #[.agg (Kx.cells ({ c with n0 := eb } : Kx)), .int .i64 0]) (results_pair rfl _ _ (w.heap.size + 1) _ rfl (loadVarK shX (R0.out.put (Kx.cells ({ c with n0 := eb } : Kx))) rfl) (.int .i64 0) rfl) rfl ⟨by first | (rw [HY.out]; done) | (rw [HY.out]; rfl), Box.below_setRow HB.out (by omega) _⟩
  · have HY0 := Lib.hid (show out7 c d = if (fixO d 18).2 = 0 ∧ (fixO d 18).1 = true then ({ c with n1 := lgC 2 (d.extract 2 18) }, [], 0) else (c, [], (fixO d 18).2) from by
      unfold out7
      rw [if_neg hz, if_neg (by omega), e]
      rfl)
    have PL := Lib.hid (fun V => len_any 2 (by decide) (by decide) V)
    have PL := Lib.hid (show ∀ V, Calls Tryz.prog 91 #[.int .i64 2] V fun e w' => e = .returned (.int .i64 16) ∧ Below V.heap.size V w' from PL.out)
    have PX := Lib.hid (fun V => fixed_any d 18 18 rfl V hs (by decide))
    have hfs := fix_short (d := d) (z := 18)
    obtain ⟨⟨kn, er⟩, ho⟩ : ∃ q, fixO d 18 = q := ⟨_, rfl⟩
    rw [ho] at PX HY0 hfs
    rw [e] at i0 v0
    by_cases he : er = 0
    rotate_left
    · have HY := Lib.hid (HY0.out.trans (if_neg (fun h => he h.1)))
      have e1 : (er == 0) = false := by simpa using he
      have e2 : (er != 0) = true := by rw [bne, e1]; rfl
      clear he
      clear HY0 hfs ho hn hn0 hn3 hz hs b0 b1 e
      go_enter Tryz.func88, Tryz.ntmps88
      go_upto_region 1 with fail
      change Code.wp _ _ _ _ ((w.alloc (.cells c.cells 44)).alloc (.cells Kx.zero.cells 44))
      have S0 := Lib.hid ((Bk.Bk.new 44 w c.cells).old (.cells Kx.zero.cells 44))
      have R0 := Bk.Bk.new 44 (w.alloc (.cells c.cells 44)) Kx.zero.cells
      rw [alloc_size] at R0
      have R0 := Lib.hid R0
      have HB := Lib.hid (balloc (balloc (Below.refl _ w) (.cells c.cells 44)) (.cells Kx.zero.cells 44))
      generalize (w.alloc (.cells c.cells 44)).alloc (.cells Kx.zero.cells 44) = W at *
      go_wp2_with fail
      refine (PL.out _).mono ?_
      rintro r w1 ⟨rfl, hb⟩
      have S0 := Lib.hid (S0.out.below hb)
      have R0 := Lib.hid (R0.out.below hb)
      have HB := Lib.hid (bcall HB.out hb)
      clear hb
      go_wp2_with fail
      refine (PX.out _).mono ?_
      rintro r w2 ⟨rfl, hb⟩
      have S0 := Lib.hid (S0.out.below hb)
      have R0 := Lib.hid (R0.out.below hb)
      have HB := Lib.hid (bcall HB.out hb)
      clear hb
      go_wp2_with (first | (refine wpList_loadX (b := w.heap.size) (m := c) rfl _ rfl rfl S0.out ?_) | (refine wpList_storeX (b := w.heap.size + 1) (m := Kx.zero) (m' := c) rfl _ _ rfl rfl rfl R0.out ?_))
      exact bodyPost_ret (v := .tuple #[.agg (Kx.cells c), .int .i64 er]) (results_pair rfl _ _ (w.heap.size + 1) _ rfl (loadVarK shX (R0.out.put (Kx.cells c)) rfl) (.int .i64 er) rfl) rfl ⟨by first | (rw [HY.out]; done) | (rw [HY.out]; rfl), Box.below_setRow HB.out (by omega) _⟩
    subst he
    cases kn with
    | false =>
      have HY := Lib.hid (HY0.out.trans (if_neg (fun h => by cases h.2)))
      clear HY0 hfs ho hn hn0 hn3 hz hs b0 b1 e
      go_enter Tryz.func88, Tryz.ntmps88
      go_upto_region 1 with fail
      change Code.wp _ _ _ _ ((w.alloc (.cells c.cells 44)).alloc (.cells Kx.zero.cells 44))
      have S0 := Lib.hid ((Bk.Bk.new 44 w c.cells).old (.cells Kx.zero.cells 44))
      have R0 := Bk.Bk.new 44 (w.alloc (.cells c.cells 44)) Kx.zero.cells
      rw [alloc_size] at R0
      have R0 := Lib.hid R0
      have HB := Lib.hid (balloc (balloc (Below.refl _ w) (.cells c.cells 44)) (.cells Kx.zero.cells 44))
      generalize (w.alloc (.cells c.cells 44)).alloc (.cells Kx.zero.cells 44) = W at *
      go_wp2_with fail
      refine (PL.out _).mono ?_
      rintro r w1 ⟨rfl, hb⟩
      have S0 := Lib.hid (S0.out.below hb)
      have R0 := Lib.hid (R0.out.below hb)
      have HB := Lib.hid (bcall HB.out hb)
      clear hb
      go_wp2_with fail
      refine (PX.out _).mono ?_
      rintro r w2 ⟨rfl, hb⟩
      have S0 := Lib.hid (S0.out.below hb)
      have R0 := Lib.hid (R0.out.below hb)
      have HB := Lib.hid (bcall HB.out hb)
      clear hb
      go_wp2_with (first | (refine wpList_loadX (b := w.heap.size) (m := c) rfl _ rfl rfl S0.out ?_) | (refine wpList_storeX (b := w.heap.size + 1) (m := Kx.zero) (m' := c) rfl _ _ rfl rfl rfl R0.out ?_))
      exact bodyPost_ret (v := .tuple #[.agg (Kx.cells c), .int .i64 0]) (results_pair rfl _ _ (w.heap.size + 1) _ rfl (loadVarK shX (R0.out.put (Kx.cells c)) rfl) (.int .i64 0) rfl) rfl ⟨by first | (rw [HY.out]; done) | (rw [HY.out]; rfl), Box.below_setRow HB.out (by omega) _⟩
    | true =>
      have HY := Lib.hid (HY0.out.trans (if_pos ⟨rfl, rfl⟩))
      have hzz : 18 ≤ d.size := by
        by_cases h : d.size < 18
        · have := hfs h
          cases this
        · omega
      have sla := sl_m d 2 18 2 18 rfl rfl (by omega) (by omega)
      have HG := Lib.hid (show lgC 2 (d.extract 2 18) = d.extract 2 18 from rfl)
      rw [HG.out] at HY
      clear HG
      generalize d.extract 2 18 = eb at *
      have PF := Lib.hid (fun V => rfam_any 2 V)
      have PF := Lib.hid (show ∀ V, Calls Tryz.prog 38 #[.int .i64 2] V fun e w' => e = .returned (.int .i64 1) ∧ V = w' from PF.out)
      clear HY0 hfs ho hn hn0 hn3 hz hs b0 b1 e
      clear hzz
      go_enter Tryz.func88, Tryz.ntmps88
      go_upto_region 1 with fail
      change Code.wp _ _ _ _ ((w.alloc (.cells c.cells 44)).alloc (.cells Kx.zero.cells 44))
      have S0 := Lib.hid ((Bk.Bk.new 44 w c.cells).old (.cells Kx.zero.cells 44))
      have R0 := Bk.Bk.new 44 (w.alloc (.cells c.cells 44)) Kx.zero.cells
      rw [alloc_size] at R0
      have R0 := Lib.hid R0
      have HB := Lib.hid (balloc (balloc (Below.refl _ w) (.cells c.cells 44)) (.cells Kx.zero.cells 44))
      generalize (w.alloc (.cells c.cells 44)).alloc (.cells Kx.zero.cells 44) = W at *
      go_wp2_with fail
      refine (PL.out _).mono ?_
      rintro r w1 ⟨rfl, hb⟩
      have S0 := Lib.hid (S0.out.below hb)
      have R0 := Lib.hid (R0.out.below hb)
      have HB := Lib.hid (bcall HB.out hb)
      clear hb
      go_wp2_with fail
      refine (PX.out _).mono ?_
      rintro r w2 ⟨rfl, hb⟩
      have S0 := Lib.hid (S0.out.below hb)
      have R0 := Lib.hid (R0.out.below hb)
      have HB := Lib.hid (bcall HB.out hb)
      clear hb
      go_wp2_with fail
      refine (PF.out _).mono ?_
      rintro r w' ⟨rfl, rfl⟩
      have d0 := S0.out.cell 5 _ rfl
      have fd := S0.out.frozen 5
      go_upto_region 14 with fail
      have XS := S0.out.set (i := 5) (v := .string eb) (cs' := Kx.cells { c with n1 := eb }) rfl
      have XR := R0.out.off (p := ⟨w.heap.size, 5, none⟩) (by show w.heap.size + 1 ≠ w.heap.size; omega) (.string eb)
      have XB := HB.out.setCell (p := ⟨w.heap.size, 5, none⟩) (by show w.heap.size ≤ w.heap.size; omega) (.string eb)
      have S0 := Lib.hid XS
      have R0 := Lib.hid XR
      have HB := Lib.hid XB
      clear XS XR XB d0 fd
      generalize World.setCell _ ⟨w.heap.size, 5, none⟩ (.string eb) = W2 at *
      go_wp2_with (first | (refine wpList_loadX (b := w.heap.size) (m := ({ c with n1 := eb } : Kx)) rfl _ rfl rfl S0.out ?_) | (refine wpList_storeX (b := w.heap.size + 1) (m := Kx.zero) (m' := ({ c with n1 := eb } : Kx)) rfl _ _ rfl rfl rfl R0.out ?_))
      exact bodyPost_ret (v := .tuple #[.agg (Kx.cells ({ c with n1 := eb } : Kx)), .int .i64 0]) (results_pair rfl _ _ (w.heap.size + 1) _ rfl (loadVarK shX (R0.out.put (Kx.cells ({ c with n1 := eb } : Kx))) rfl) (.int .i64 0) rfl) rfl ⟨by first | (rw [HY.out]; done) | (rw [HY.out]; rfl), Box.below_setRow HB.out (by omega) _⟩
  · have HY0 := Lib.hid (show out7 c d = if (fixO d 10).2 = 0 ∧ (fixO d 10).1 = true then ({ c with n1 := lgC 3 (d.extract 2 10) }, [], 0) else (c, [], (fixO d 10).2) from by
      unfold out7
      rw [if_neg hz, if_neg (by omega), e]
      rfl)
    have PL := Lib.hid (fun V => len_any 3 (by decide) (by decide) V)
    have PL := Lib.hid (show ∀ V, Calls Tryz.prog 91 #[.int .i64 3] V fun e w' => e = .returned (.int .i64 8) ∧ Below V.heap.size V w' from PL.out)
    have PX := Lib.hid (fun V => fixed_any d 10 10 rfl V hs (by decide))
    have hfs := fix_short (d := d) (z := 10)
    obtain ⟨⟨kn, er⟩, ho⟩ : ∃ q, fixO d 10 = q := ⟨_, rfl⟩
    rw [ho] at PX HY0 hfs
    rw [e] at i0 v0
    by_cases he : er = 0
    rotate_left
    · have HY := Lib.hid (HY0.out.trans (if_neg (fun h => he h.1)))
      have e1 : (er == 0) = false := by simpa using he
      have e2 : (er != 0) = true := by rw [bne, e1]; rfl
      clear he
      clear HY0 hfs ho hn hn0 hn3 hz hs b0 b1 e
      go_enter Tryz.func88, Tryz.ntmps88
      go_upto_region 1 with fail
      change Code.wp _ _ _ _ ((w.alloc (.cells c.cells 44)).alloc (.cells Kx.zero.cells 44))
      have S0 := Lib.hid ((Bk.Bk.new 44 w c.cells).old (.cells Kx.zero.cells 44))
      have R0 := Bk.Bk.new 44 (w.alloc (.cells c.cells 44)) Kx.zero.cells
      rw [alloc_size] at R0
      have R0 := Lib.hid R0
      have HB := Lib.hid (balloc (balloc (Below.refl _ w) (.cells c.cells 44)) (.cells Kx.zero.cells 44))
      generalize (w.alloc (.cells c.cells 44)).alloc (.cells Kx.zero.cells 44) = W at *
      go_wp2_with fail
      refine (PL.out _).mono ?_
      rintro r w1 ⟨rfl, hb⟩
      have S0 := Lib.hid (S0.out.below hb)
      have R0 := Lib.hid (R0.out.below hb)
      have HB := Lib.hid (bcall HB.out hb)
      clear hb
      go_wp2_with fail
      refine (PX.out _).mono ?_
      rintro r w2 ⟨rfl, hb⟩
      have S0 := Lib.hid (S0.out.below hb)
      have R0 := Lib.hid (R0.out.below hb)
      have HB := Lib.hid (bcall HB.out hb)
      clear hb
      go_wp2_with (first | (refine wpList_loadX (b := w.heap.size) (m := c) rfl _ rfl rfl S0.out ?_) | (refine wpList_storeX (b := w.heap.size + 1) (m := Kx.zero) (m' := c) rfl _ _ rfl rfl rfl R0.out ?_))
      exact bodyPost_ret (v := .tuple #[.agg (Kx.cells c), .int .i64 er]) (results_pair rfl _ _ (w.heap.size + 1) _ rfl (loadVarK shX (R0.out.put (Kx.cells c)) rfl) (.int .i64 er) rfl) rfl ⟨by first | (rw [HY.out]; done) | (rw [HY.out]; rfl), Box.below_setRow HB.out (by omega) _⟩
    subst he
    cases kn with
    | false =>
      have HY := Lib.hid (HY0.out.trans (if_neg (fun h => by cases h.2)))
      clear HY0 hfs ho hn hn0 hn3 hz hs b0 b1 e
      go_enter Tryz.func88, Tryz.ntmps88
      go_upto_region 1 with fail
      change Code.wp _ _ _ _ ((w.alloc (.cells c.cells 44)).alloc (.cells Kx.zero.cells 44))
      have S0 := Lib.hid ((Bk.Bk.new 44 w c.cells).old (.cells Kx.zero.cells 44))
      have R0 := Bk.Bk.new 44 (w.alloc (.cells c.cells 44)) Kx.zero.cells
      rw [alloc_size] at R0
      have R0 := Lib.hid R0
      have HB := Lib.hid (balloc (balloc (Below.refl _ w) (.cells c.cells 44)) (.cells Kx.zero.cells 44))
      generalize (w.alloc (.cells c.cells 44)).alloc (.cells Kx.zero.cells 44) = W at *
      go_wp2_with fail
      refine (PL.out _).mono ?_
      rintro r w1 ⟨rfl, hb⟩
      have S0 := Lib.hid (S0.out.below hb)
      have R0 := Lib.hid (R0.out.below hb)
      have HB := Lib.hid (bcall HB.out hb)
      clear hb
      go_wp2_with fail
      refine (PX.out _).mono ?_
      rintro r w2 ⟨rfl, hb⟩
      have S0 := Lib.hid (S0.out.below hb)
      have R0 := Lib.hid (R0.out.below hb)
      have HB := Lib.hid (bcall HB.out hb)
      clear hb
      go_wp2_with (first | (refine wpList_loadX (b := w.heap.size) (m := c) rfl _ rfl rfl S0.out ?_) | (refine wpList_storeX (b := w.heap.size + 1) (m := Kx.zero) (m' := c) rfl _ _ rfl rfl rfl R0.out ?_))
      exact bodyPost_ret (v := .tuple #[.agg (Kx.cells c), .int .i64 0]) (results_pair rfl _ _ (w.heap.size + 1) _ rfl (loadVarK shX (R0.out.put (Kx.cells c)) rfl) (.int .i64 0) rfl) rfl ⟨by first | (rw [HY.out]; done) | (rw [HY.out]; rfl), Box.below_setRow HB.out (by omega) _⟩
    | true =>
      have HY := Lib.hid (HY0.out.trans (if_pos ⟨rfl, rfl⟩))
      have hzz : 10 ≤ d.size := by
        by_cases h : d.size < 10
        · have := hfs h
          cases this
        · omega
      have sla := sl_m d 2 10 2 10 rfl rfl (by omega) (by omega)
      have PG := Lib.hid (fun V => rlong_any (d.extract 2 10) V)
      have HG := Lib.hid (show lgA (d.extract 2 10) = lgC 3 (d.extract 2 10) from rfl)
      rw [HG.out] at PG
      clear HG
      generalize d.extract 2 10 = es at *
      generalize lgC 3 es = eb at *
      have PF := Lib.hid (fun V => rfam_any 3 V)
      have PF := Lib.hid (show ∀ V, Calls Tryz.prog 38 #[.int .i64 3] V fun e w' => e = .returned (.int .i64 1) ∧ V = w' from PF.out)
      clear HY0 hfs ho hn hn0 hn3 hz hs b0 b1 e
      clear hzz
      go_enter Tryz.func88, Tryz.ntmps88
      go_upto_region 1 with fail
      change Code.wp _ _ _ _ ((w.alloc (.cells c.cells 44)).alloc (.cells Kx.zero.cells 44))
      have S0 := Lib.hid ((Bk.Bk.new 44 w c.cells).old (.cells Kx.zero.cells 44))
      have R0 := Bk.Bk.new 44 (w.alloc (.cells c.cells 44)) Kx.zero.cells
      rw [alloc_size] at R0
      have R0 := Lib.hid R0
      have HB := Lib.hid (balloc (balloc (Below.refl _ w) (.cells c.cells 44)) (.cells Kx.zero.cells 44))
      generalize (w.alloc (.cells c.cells 44)).alloc (.cells Kx.zero.cells 44) = W at *
      go_wp2_with fail
      refine (PL.out _).mono ?_
      rintro r w1 ⟨rfl, hb⟩
      have S0 := Lib.hid (S0.out.below hb)
      have R0 := Lib.hid (R0.out.below hb)
      have HB := Lib.hid (bcall HB.out hb)
      clear hb
      go_wp2_with fail
      refine (PX.out _).mono ?_
      rintro r w2 ⟨rfl, hb⟩
      have S0 := Lib.hid (S0.out.below hb)
      have R0 := Lib.hid (R0.out.below hb)
      have HB := Lib.hid (bcall HB.out hb)
      clear hb
      go_wp2_with fail
      refine (PG.out _).mono ?_
      rintro r w3 ⟨rfl, hb⟩
      have S0 := Lib.hid (S0.out.below hb)
      have R0 := Lib.hid (R0.out.below hb)
      have HB := Lib.hid (bcall HB.out hb)
      clear hb
      go_wp2_with fail
      refine (PF.out _).mono ?_
      rintro r w' ⟨rfl, rfl⟩
      have d0 := S0.out.cell 5 _ rfl
      have fd := S0.out.frozen 5
      go_upto_region 14 with fail
      have XS := S0.out.set (i := 5) (v := .string eb) (cs' := Kx.cells { c with n1 := eb }) rfl
      have XR := R0.out.off (p := ⟨w.heap.size, 5, none⟩) (by show w.heap.size + 1 ≠ w.heap.size; omega) (.string eb)
      have XB := HB.out.setCell (p := ⟨w.heap.size, 5, none⟩) (by show w.heap.size ≤ w.heap.size; omega) (.string eb)
      have S0 := Lib.hid XS
      have R0 := Lib.hid XR
      have HB := Lib.hid XB
      clear XS XR XB d0 fd
      generalize World.setCell _ ⟨w.heap.size, 5, none⟩ (.string eb) = W2 at *
      go_wp2_with (first | (refine wpList_loadX (b := w.heap.size) (m := ({ c with n1 := eb } : Kx)) rfl _ rfl rfl S0.out ?_) | (refine wpList_storeX (b := w.heap.size + 1) (m := Kx.zero) (m' := ({ c with n1 := eb } : Kx)) rfl _ _ rfl rfl rfl R0.out ?_))
      exact bodyPost_ret (v := .tuple #[.agg (Kx.cells ({ c with n1 := eb } : Kx)), .int .i64 0]) (results_pair rfl _ _ (w.heap.size + 1) _ rfl (loadVarK shX (R0.out.put (Kx.cells ({ c with n1 := eb } : Kx))) rfl) (.int .i64 0) rfl) rfl ⟨by first | (rw [HY.out]; done) | (rw [HY.out]; rfl), Box.below_setRow HB.out (by omega) _⟩
theorem pf_cellX {W : World} {b : Nat} {c : Kx} (h : Bk 44 W b c.cells) {k : Nat} (hk : k < 4) : W.cell? ⟨b, k, none⟩ = some (.string (c.pf k)) := by
  rcases (show k = 0 ∨ k = 1 ∨ k = 2 ∨ k = 3 by omega) with rfl | rfl | rfl | rfl
  · exact h.cell 0 _ rfl
  · exact h.cell 1 _ rfl
  · exact h.cell 2 _ rfl
  · exact h.cell 3 _ rfl
theorem nx_cellX {W : World} {b : Nat} {c : Kx} (h : Bk 44 W b c.cells) {k : Nat} (hk : k < 2) : W.cell? ⟨b, 4 + k, none⟩ = some (.string (c.nx k)) := by
  rcases (show k = 0 ∨ k = 1 by omega) with rfl | rfl
  · exact h.cell 4 _ rfl
  · exact h.cell 5 _ rfl
theorem setP_cellsX (c : Kx) (a : ByteArray) {k : Nat} (hk : k < 4) : c.cells.setIfInBounds k (.string a) = (c.setP k a).cells := by
  rcases (show k = 0 ∨ k = 1 ∨ k = 2 ∨ k = 3 by omega) with rfl | rfl | rfl | rfl <;> rfl
theorem tell_is (c : Kx) (u : Up) : tellB c u = (!decide (u.hav = 0) && (decide (u.metric = 65535) || (!decide (u.ae = 0) && !decide (c.id.size = 0)))) := rfl
/-- The message that is told, with the Update's Subs; none. -/
def toldM (c : Kx) (u : Up) (a : ByteArray) : M := if tellB c u then { updM c u a with sa := u.sa, sc := u.sc } else M.zero
set_option maxHeartbeats 25600000 in
theorem told_any (c : Kx) (d : ByteArray) (u : Up) (a : ByteArray) (w : World) (g : Cnt d u) :
    Calls Tryz.prog 115 #[.agg c.cells, .agg u.cells, .string a] w fun e w' => e = .returned (.tuple #[.agg (toldM c u a).cells, .bool (tellB c u)]) ∧ Below w.heap.size w w' := by
  have HT := Lib.hid (tell_is c u)
  have n1 := nil_eq c.id
  have n2 := nil_em c.id
  have S0 := Lib.hid (((Bk.Bk.new 44 w c.cells).old (.cells u.cells 120)).old (.cells M.zero.cells 38))
  have U0 := Bk.Bk.new 120 (w.alloc (.cells c.cells 44)) u.cells
  rw [alloc_size] at U0
  have U0 := Lib.hid (U0.old (.cells M.zero.cells 38))
  have R0 := Bx.new ((w.alloc (.cells c.cells 44)).alloc (.cells u.cells 120)) M.zero
  rw [alloc_size, alloc_size] at R0
  have R0 := Lib.hid R0
  have HB := Lib.hid (balloc (balloc (balloc (Below.refl _ w) (.cells c.cells 44)) (.cells u.cells 120)) (.cells M.zero.cells 38))
  have PF := Lib.hid (fun V => rfam_any u.ae V)
  obtain ⟨m0, hm0⟩ : ∃ m : M, m = { M.zero with kind := 11, ae := u.ae, pfx := a, plen := u.plen, interval := u.iv, seq := u.seq, metric := u.metric, sa := u.sa, sl := u.sl, sc := u.sc } := ⟨_, rfl⟩
  have HM0 := Lib.hid hm0
  have h0 := g.ae0
  have h3 := g.ae3
  clear hm0 g
  by_cases h7 : u.hav = 0
  · rw [decide_eq_true h7] at HT
    have HT := Lib.hid (show tellB c u = false from HT.out)
    have H7 := Lib.hid h7
    clear h7
    have HK := Lib.hid (show toldM c u a = M.zero by unfold toldM; rw [HT.out]; rfl)
    go_enter Tryz.func115, Tryz.ntmps115
    go_upto_region 1 with fail
    change Code.wp _ _ _ _ (((w.alloc (.cells c.cells 44)).alloc (.cells u.cells 120)).alloc (.cells M.zero.cells 38))
    generalize ((w.alloc (.cells c.cells 44)).alloc (.cells u.cells 120)).alloc (.cells M.zero.cells 38) = W at *
    have c0 := U0.out.cell 0 (.int .i64 u.ae) rfl
    have c2 := U0.out.cell 2 (.int .i64 u.plen) rfl
    have c4 := U0.out.cell 4 (.int .i64 u.iv) rfl
    have c5 := U0.out.cell 5 (.int .i64 u.seq) rfl
    have c6 := U0.out.cell 6 (.int .i64 u.metric) rfl
    have c9 := U0.out.cell 9 (.slice u.sa u.sl.length u.sc) rfl
    have hlt := R0.out.lt
    go_upto_region 2 with (first | (refine wpList_builtK rfl 38 _ rfl (M.cells { M.zero with kind := 11, ae := u.ae, pfx := a, plen := u.plen, interval := u.iv, seq := u.seq, metric := u.metric, sa := u.sa, sl := u.sl, sc := u.sc }) (by kernel_rfl) ?_) | (refine wpList_storeM (b := W.heap.size) (m := M.zero) (m' := { M.zero with kind := 11, ae := u.ae, pfx := a, plen := u.plen, interval := u.iv, seq := u.seq, metric := u.metric, sa := u.sa, sl := u.sl, sc := u.sc }) rfl _ _ rfl rfl rfl (Bx.new W M.zero) ?_))
    change Code.wp _ _ _ _ ((W.alloc (.cells M.zero.cells 38)).setRow W.heap.size (M.cells { M.zero with kind := 11, ae := u.ae, pfx := a, plen := u.plen, interval := u.iv, seq := u.seq, metric := u.metric, sa := u.sa, sl := u.sl, sc := u.sc }))
    rw [World.setRow_alloc_new, ← HM0.out]
    have bel := balloc (Below.refl W.heap.size W) (.cells m0.cells 38)
    have S0 := Lib.hid (S0.out.below bel)
    have U0 := Lib.hid (U0.out.below bel)
    have R0 := Lib.hid (R0.out.below bel)
    have HB := Lib.hid (bcall HB.out bel)
    have X0 := Lib.hid (Bx.new W m0)
    clear bel c0 c2 c4 c5 c6 c9
    generalize W.alloc (.cells m0.cells 38) = Y at *
    generalize W.heap.size = gx at *
    have c0 := U0.out.cell 0 (.int .i64 u.ae) rfl
    have c6 := U0.out.cell 6 (.int .i64 u.metric) rfl
    have c7 := U0.out.cell 7 (.int .i64 u.hav) rfl
    have s6 := S0.out.cell 6 (.string c.id) rfl
    rw [H7.out] at c7
    go_wp2_with (first | (refine wpList_builtK rfl 38 _ rfl (M.cells M.zero) (by kernel_rfl) ?_) | (refine wpList_loadM (b := gx) (m := M.zero) rfl _ rfl rfl X0.out ?_) | (refine wpList_storeM (b := w.heap.size + 1 + 1) (m := M.zero) (m' := M.zero) rfl _ _ rfl rfl rfl R0.out ?_))
    exact bodyPost_ret (v := .tuple #[.agg (M.cells M.zero), .bool false]) (results_pair rfl _ _ (w.heap.size + 1 + 1) _ rfl (Own.loadVarM (R0.out.put (m' := M.zero))) (.bool false) rfl) rfl ⟨by rw [HK.out, HT.out], Box.below_setRow HB.out (by omega) _⟩
  have e7 : (u.hav == 0) = false := by simpa using h7
  rw [decide_eq_false h7] at HT
  clear h7
  by_cases hm : u.metric = 65535
  · rw [decide_eq_true hm] at HT
    have HT := Lib.hid (show tellB c u = true from HT.out)
    have HK := Lib.hid (show toldM c u a = m0 from by
      unfold toldM
      rw [HT.out, if_pos rfl, HM0.out]
      unfold updM
      rw [if_pos hm, if_pos hm]
      rfl)
    have HMM := Lib.hid hm
    clear hm
    go_enter Tryz.func115, Tryz.ntmps115
    go_upto_region 1 with fail
    change Code.wp _ _ _ _ (((w.alloc (.cells c.cells 44)).alloc (.cells u.cells 120)).alloc (.cells M.zero.cells 38))
    generalize ((w.alloc (.cells c.cells 44)).alloc (.cells u.cells 120)).alloc (.cells M.zero.cells 38) = W at *
    have c0 := U0.out.cell 0 (.int .i64 u.ae) rfl
    have c2 := U0.out.cell 2 (.int .i64 u.plen) rfl
    have c4 := U0.out.cell 4 (.int .i64 u.iv) rfl
    have c5 := U0.out.cell 5 (.int .i64 u.seq) rfl
    have c6 := U0.out.cell 6 (.int .i64 u.metric) rfl
    have c9 := U0.out.cell 9 (.slice u.sa u.sl.length u.sc) rfl
    have hlt := R0.out.lt
    go_upto_region 2 with (first | (refine wpList_builtK rfl 38 _ rfl (M.cells { M.zero with kind := 11, ae := u.ae, pfx := a, plen := u.plen, interval := u.iv, seq := u.seq, metric := u.metric, sa := u.sa, sl := u.sl, sc := u.sc }) (by kernel_rfl) ?_) | (refine wpList_storeM (b := W.heap.size) (m := M.zero) (m' := { M.zero with kind := 11, ae := u.ae, pfx := a, plen := u.plen, interval := u.iv, seq := u.seq, metric := u.metric, sa := u.sa, sl := u.sl, sc := u.sc }) rfl _ _ rfl rfl rfl (Bx.new W M.zero) ?_))
    change Code.wp _ _ _ _ ((W.alloc (.cells M.zero.cells 38)).setRow W.heap.size (M.cells { M.zero with kind := 11, ae := u.ae, pfx := a, plen := u.plen, interval := u.iv, seq := u.seq, metric := u.metric, sa := u.sa, sl := u.sl, sc := u.sc }))
    rw [World.setRow_alloc_new, ← HM0.out]
    have bel := balloc (Below.refl W.heap.size W) (.cells m0.cells 38)
    have S0 := Lib.hid (S0.out.below bel)
    have U0 := Lib.hid (U0.out.below bel)
    have R0 := Lib.hid (R0.out.below bel)
    have HB := Lib.hid (bcall HB.out bel)
    have X0 := Lib.hid (Bx.new W m0)
    clear bel c0 c2 c4 c5 c6 c9
    generalize W.alloc (.cells m0.cells 38) = Y at *
    generalize W.heap.size = gx at *
    have c0 := U0.out.cell 0 (.int .i64 u.ae) rfl
    have c6 := U0.out.cell 6 (.int .i64 u.metric) rfl
    have c7 := U0.out.cell 7 (.int .i64 u.hav) rfl
    have s6 := S0.out.cell 6 (.string c.id) rfl
    rw [HMM.out] at c6
    go_wp2_with (first | (refine wpList_builtK rfl 38 _ rfl (M.cells M.zero) (by kernel_rfl) ?_) | (refine wpList_loadM (b := gx) (m := m0) rfl _ rfl rfl X0.out ?_) | (refine wpList_storeM (b := w.heap.size + 1 + 1) (m := M.zero) (m' := m0) rfl _ _ rfl rfl rfl R0.out ?_))
    exact bodyPost_ret (v := .tuple #[.agg (M.cells m0), .bool true]) (results_pair rfl _ _ (w.heap.size + 1 + 1) _ rfl (Own.loadVarM (R0.out.put (m' := m0))) (.bool true) rfl) rfl ⟨by rw [HK.out, HT.out], Box.below_setRow HB.out (by omega) _⟩
  have hm2 : (u.metric == 65535) = false := by simpa using hm
  rw [decide_eq_false hm] at HT
  by_cases hae : u.ae = 0
  · rw [decide_eq_true hae] at HT
    have HT := Lib.hid (show tellB c u = false from HT.out)
    have HA := Lib.hid hae
    clear hae hm h0 h3
    have HK := Lib.hid (show toldM c u a = M.zero by unfold toldM; rw [HT.out]; rfl)
    go_enter Tryz.func115, Tryz.ntmps115
    go_upto_region 1 with fail
    change Code.wp _ _ _ _ (((w.alloc (.cells c.cells 44)).alloc (.cells u.cells 120)).alloc (.cells M.zero.cells 38))
    generalize ((w.alloc (.cells c.cells 44)).alloc (.cells u.cells 120)).alloc (.cells M.zero.cells 38) = W at *
    have c0 := U0.out.cell 0 (.int .i64 u.ae) rfl
    have c2 := U0.out.cell 2 (.int .i64 u.plen) rfl
    have c4 := U0.out.cell 4 (.int .i64 u.iv) rfl
    have c5 := U0.out.cell 5 (.int .i64 u.seq) rfl
    have c6 := U0.out.cell 6 (.int .i64 u.metric) rfl
    have c9 := U0.out.cell 9 (.slice u.sa u.sl.length u.sc) rfl
    have hlt := R0.out.lt
    go_upto_region 2 with (first | (refine wpList_builtK rfl 38 _ rfl (M.cells { M.zero with kind := 11, ae := u.ae, pfx := a, plen := u.plen, interval := u.iv, seq := u.seq, metric := u.metric, sa := u.sa, sl := u.sl, sc := u.sc }) (by kernel_rfl) ?_) | (refine wpList_storeM (b := W.heap.size) (m := M.zero) (m' := { M.zero with kind := 11, ae := u.ae, pfx := a, plen := u.plen, interval := u.iv, seq := u.seq, metric := u.metric, sa := u.sa, sl := u.sl, sc := u.sc }) rfl _ _ rfl rfl rfl (Bx.new W M.zero) ?_))
    change Code.wp _ _ _ _ ((W.alloc (.cells M.zero.cells 38)).setRow W.heap.size (M.cells { M.zero with kind := 11, ae := u.ae, pfx := a, plen := u.plen, interval := u.iv, seq := u.seq, metric := u.metric, sa := u.sa, sl := u.sl, sc := u.sc }))
    rw [World.setRow_alloc_new, ← HM0.out]
    have bel := balloc (Below.refl W.heap.size W) (.cells m0.cells 38)
    have S0 := Lib.hid (S0.out.below bel)
    have U0 := Lib.hid (U0.out.below bel)
    have R0 := Lib.hid (R0.out.below bel)
    have HB := Lib.hid (bcall HB.out bel)
    have X0 := Lib.hid (Bx.new W m0)
    clear bel c0 c2 c4 c5 c6 c9
    generalize W.alloc (.cells m0.cells 38) = Y at *
    generalize W.heap.size = gx at *
    have c0 := U0.out.cell 0 (.int .i64 u.ae) rfl
    have c6 := U0.out.cell 6 (.int .i64 u.metric) rfl
    have c7 := U0.out.cell 7 (.int .i64 u.hav) rfl
    have s6 := S0.out.cell 6 (.string c.id) rfl
    rw [HA.out] at c0
    go_wp2_with (first | (refine wpList_builtK rfl 38 _ rfl (M.cells M.zero) (by kernel_rfl) ?_) | (refine wpList_loadM (b := gx) (m := M.zero) rfl _ rfl rfl X0.out ?_) | (refine wpList_storeM (b := w.heap.size + 1 + 1) (m := M.zero) (m' := M.zero) rfl _ _ rfl rfl rfl R0.out ?_))
    exact bodyPost_ret (v := .tuple #[.agg (M.cells M.zero), .bool false]) (results_pair rfl _ _ (w.heap.size + 1 + 1) _ rfl (Own.loadVarM (R0.out.put (m' := M.zero))) (.bool false) rfl) rfl ⟨by rw [HK.out, HT.out], Box.below_setRow HB.out (by omega) _⟩
  have e0 : (u.ae == 0) = false := by simpa using hae
  rw [decide_eq_false hae] at HT
  by_cases hz : c.id.size = 0
  · rw [decide_eq_true hz] at HT n1 n2
    have HT := Lib.hid (show tellB c u = false from HT.out)
    clear hz hae hm h0 h3
    have HK := Lib.hid (show toldM c u a = M.zero by unfold toldM; rw [HT.out]; rfl)
    go_enter Tryz.func115, Tryz.ntmps115
    go_upto_region 1 with fail
    change Code.wp _ _ _ _ (((w.alloc (.cells c.cells 44)).alloc (.cells u.cells 120)).alloc (.cells M.zero.cells 38))
    generalize ((w.alloc (.cells c.cells 44)).alloc (.cells u.cells 120)).alloc (.cells M.zero.cells 38) = W at *
    have c0 := U0.out.cell 0 (.int .i64 u.ae) rfl
    have c2 := U0.out.cell 2 (.int .i64 u.plen) rfl
    have c4 := U0.out.cell 4 (.int .i64 u.iv) rfl
    have c5 := U0.out.cell 5 (.int .i64 u.seq) rfl
    have c6 := U0.out.cell 6 (.int .i64 u.metric) rfl
    have c9 := U0.out.cell 9 (.slice u.sa u.sl.length u.sc) rfl
    have hlt := R0.out.lt
    go_upto_region 2 with (first | (refine wpList_builtK rfl 38 _ rfl (M.cells { M.zero with kind := 11, ae := u.ae, pfx := a, plen := u.plen, interval := u.iv, seq := u.seq, metric := u.metric, sa := u.sa, sl := u.sl, sc := u.sc }) (by kernel_rfl) ?_) | (refine wpList_storeM (b := W.heap.size) (m := M.zero) (m' := { M.zero with kind := 11, ae := u.ae, pfx := a, plen := u.plen, interval := u.iv, seq := u.seq, metric := u.metric, sa := u.sa, sl := u.sl, sc := u.sc }) rfl _ _ rfl rfl rfl (Bx.new W M.zero) ?_))
    change Code.wp _ _ _ _ ((W.alloc (.cells M.zero.cells 38)).setRow W.heap.size (M.cells { M.zero with kind := 11, ae := u.ae, pfx := a, plen := u.plen, interval := u.iv, seq := u.seq, metric := u.metric, sa := u.sa, sl := u.sl, sc := u.sc }))
    rw [World.setRow_alloc_new, ← HM0.out]
    have bel := balloc (Below.refl W.heap.size W) (.cells m0.cells 38)
    have S0 := Lib.hid (S0.out.below bel)
    have U0 := Lib.hid (U0.out.below bel)
    have R0 := Lib.hid (R0.out.below bel)
    have HB := Lib.hid (bcall HB.out bel)
    have X0 := Lib.hid (Bx.new W m0)
    clear bel c0 c2 c4 c5 c6 c9
    generalize W.alloc (.cells m0.cells 38) = Y at *
    generalize W.heap.size = gx at *
    have c0 := U0.out.cell 0 (.int .i64 u.ae) rfl
    have c6 := U0.out.cell 6 (.int .i64 u.metric) rfl
    have c7 := U0.out.cell 7 (.int .i64 u.hav) rfl
    have s6 := S0.out.cell 6 (.string c.id) rfl
    go_wp2_with (first | (refine wpList_builtK rfl 38 _ rfl (M.cells M.zero) (by kernel_rfl) ?_) | (refine wpList_loadM (b := gx) (m := M.zero) rfl _ rfl rfl X0.out ?_) | (refine wpList_storeM (b := w.heap.size + 1 + 1) (m := M.zero) (m' := M.zero) rfl _ _ rfl rfl rfl R0.out ?_))
    exact bodyPost_ret (v := .tuple #[.agg (M.cells M.zero), .bool false]) (results_pair rfl _ _ (w.heap.size + 1 + 1) _ rfl (Own.loadVarM (R0.out.put (m' := M.zero))) (.bool false) rfl) rfl ⟨by rw [HK.out, HT.out], Box.below_setRow HB.out (by omega) _⟩
  rw [decide_eq_false hz] at HT n1 n2
  have HT := Lib.hid (show tellB c u = true from HT.out)
  obtain ⟨f, hf, hf2⟩ : ∃ f : Nat, fam u.ae = f ∧ f < 2 := by
    rcases (show u.ae = 1 ∨ u.ae = 2 ∨ u.ae = 3 by omega) with e | e | e <;> rw [e]
    · exact ⟨0, rfl, by decide⟩
    · exact ⟨1, rfl, by decide⟩
    · exact ⟨1, rfl, by decide⟩
  have HK := Lib.hid (show toldM c u a = { m0 with id := c.id, next := c.nx f } from by
    unfold toldM
    rw [HT.out, if_pos rfl, HM0.out]
    unfold updM
    rw [if_neg hm, if_neg hm, hf])
  rw [hf] at PF
  clear hz hae hm h0 h3 hf
  go_enter Tryz.func115, Tryz.ntmps115
  go_upto_region 1 with fail
  change Code.wp _ _ _ _ (((w.alloc (.cells c.cells 44)).alloc (.cells u.cells 120)).alloc (.cells M.zero.cells 38))
  generalize ((w.alloc (.cells c.cells 44)).alloc (.cells u.cells 120)).alloc (.cells M.zero.cells 38) = W at *
  have c0 := U0.out.cell 0 (.int .i64 u.ae) rfl
  have c2 := U0.out.cell 2 (.int .i64 u.plen) rfl
  have c4 := U0.out.cell 4 (.int .i64 u.iv) rfl
  have c5 := U0.out.cell 5 (.int .i64 u.seq) rfl
  have c6 := U0.out.cell 6 (.int .i64 u.metric) rfl
  have c9 := U0.out.cell 9 (.slice u.sa u.sl.length u.sc) rfl
  have hlt := R0.out.lt
  go_upto_region 2 with (first | (refine wpList_builtK rfl 38 _ rfl (M.cells { M.zero with kind := 11, ae := u.ae, pfx := a, plen := u.plen, interval := u.iv, seq := u.seq, metric := u.metric, sa := u.sa, sl := u.sl, sc := u.sc }) (by kernel_rfl) ?_) | (refine wpList_storeM (b := W.heap.size) (m := M.zero) (m' := { M.zero with kind := 11, ae := u.ae, pfx := a, plen := u.plen, interval := u.iv, seq := u.seq, metric := u.metric, sa := u.sa, sl := u.sl, sc := u.sc }) rfl _ _ rfl rfl rfl (Bx.new W M.zero) ?_))
  change Code.wp _ _ _ _ ((W.alloc (.cells M.zero.cells 38)).setRow W.heap.size (M.cells { M.zero with kind := 11, ae := u.ae, pfx := a, plen := u.plen, interval := u.iv, seq := u.seq, metric := u.metric, sa := u.sa, sl := u.sl, sc := u.sc }))
  rw [World.setRow_alloc_new, ← HM0.out]
  have bel := balloc (Below.refl W.heap.size W) (.cells m0.cells 38)
  have S0 := Lib.hid (S0.out.below bel)
  have U0 := Lib.hid (U0.out.below bel)
  have R0 := Lib.hid (R0.out.below bel)
  have HB := Lib.hid (bcall HB.out bel)
  have X0 := Lib.hid (Bx.new W m0)
  clear bel c0 c2 c4 c5 c6 c9
  generalize W.alloc (.cells m0.cells 38) = Y at *
  generalize W.heap.size = gx at *
  have c0 := U0.out.cell 0 (.int .i64 u.ae) rfl
  have c6 := U0.out.cell 6 (.int .i64 u.metric) rfl
  have c7 := U0.out.cell 7 (.int .i64 u.hav) rfl
  have s6 := S0.out.cell 6 (.string c.id) rfl
  go_upto_region 8 with fail
  clear c0 c6 c7 s6 n1 n2 hm2 e0 e7
  refine wp_region_held_drew (S := fun X => Bk 44 X w.heap.size c.cells ∧ Bk 120 X (w.heap.size + 1) u.cells) (by kernel_rfl) ⟨S0.out, U0.out⟩ (fun hS => ?_)
  have X0 := Lib.hid (show Bx Y.drew gx m0 from X0.out)
  have R0 := Lib.hid (show Bx Y.drew (w.heap.size + 1 + 1) M.zero from R0.out)
  have HB := Lib.hid HB.out.drew
  clear S0 U0
  generalize Y.drew = Y0 at *
  refine H.tk (i := 0) (v := ?v0) ?h0 hS ?_
  case h0 => (intro w hw; go_simp; first | done | (with_reducible rfl))
  try simp only [Act.put, List.setIfInBounds_toArray, List.set_cons_zero, List.set_cons_succ]
  refine H.tk (i := 1) (v := .string c.id) ?h1 hS ?_
  case h1 => exact (fun w hw => by have cq := hw.1.cell 6 (.string c.id) rfl; go_simp)
  try simp only [Act.put, List.setIfInBounds_toArray, List.set_cons_zero, List.set_cons_succ]
  refine H.tk (i := 2) (v := ?v2) ?h2 hS ?_
  case h2 => (intro w hw; go_simp; first | done | (with_reducible rfl))
  try simp only [Act.put, List.setIfInBounds_toArray, List.set_cons_zero, List.set_cons_succ]
  refine H.tk (i := 3) (v := .int .i64 u.ae) ?h3 hS ?_
  case h3 => exact (fun w hw => by have cq := hw.2.cell 0 (.int .i64 u.ae) rfl; go_simp)
  try simp only [Act.put, List.setIfInBounds_toArray, List.set_cons_zero, List.set_cons_succ]
  refine H.tk (i := 5) (v := ?v5) ?h5 hS ?_
  case h5 => (intro w hw; go_simp; first | done | (with_reducible rfl))
  try simp only [Act.put, List.setIfInBounds_toArray, List.set_cons_zero, List.set_cons_succ]
  refine H.tk (i := 8) (v := ?v8) ?h8 hS ?_
  case h8 => (intro w hw; go_simp; first | done | (with_reducible rfl))
  try simp only [Act.put, List.setIfInBounds_toArray, List.set_cons_zero, List.set_cons_succ]
  refine wpAnyH_ready (rs := [4]) (by kernel_rfl) (by simp) ?_
  refine AllReadyH.cons rfl (fun K hK => ?_) AllReadyH.nil
  go_simp
  refine (PF.out _).mono ?_
  rintro e X4 ⟨rfl, rfl⟩
  refine hK.out _ _ hS (fun _ => ?_)
  clear hK K
  try simp only [Act.put, List.setIfInBounds_toArray, List.set_cons_zero, List.set_cons_succ]
  refine H.tk (i := 6) (v := .pointer (some ⟨w.heap.size, 4 + f, none⟩)) ?h6 hS ?_
  case h6 => exact (fun _ _ => ex_indexAt rfl rfl rfl (indexAt2 w.heap.size f hf2 _))
  try simp only [Act.put, List.setIfInBounds_toArray, List.set_cons_zero, List.set_cons_succ]
  refine H.tk (i := 7) (v := .string (c.nx f)) ?h7 hS ?_
  case h7 => exact (fun w hw => by have cq := nx_cellX hw.1 hf2; go_simp)
  try simp only [Act.put, List.setIfInBounds_toArray, List.set_cons_zero, List.set_cons_succ]
  refine wpAnyH_ready (rs := [9]) (by kernel_rfl) (by simp) ?_
  refine AllReadyH.cons rfl (fun K hK => ?_) AllReadyH.nil
  have cx := X0.out.cs.c11
  have fx := X0.out.frozen 11
  go_simp
  have X0 := Lib.hid (X0.out.set (i := 11) (v := .string c.id) (m' := { m0 with id := c.id }) rfl)
  have R0 := Lib.hid (R0.out.off (p := ⟨gx, 11, none⟩) (by show w.heap.size + 1 + 1 ≠ gx; omega) (.string c.id))
  have HB := Lib.hid (HB.out.setCell (p := ⟨gx, 11, none⟩) (by show w.heap.size ≤ gx; omega) (.string c.id))
  refine hK.out _ _ ⟨hS.1.off (p := ⟨gx, 11, none⟩) (by show w.heap.size ≠ gx; omega) (.string c.id), hS.2.off (p := ⟨gx, 11, none⟩) (by show w.heap.size + 1 ≠ gx; omega) (.string c.id)⟩ (fun hS' => ?_)
  clear hK K hS cx fx
  have hS := hS'
  clear hS'
  generalize World.setCell _ ⟨gx, 11, none⟩ _ = Y9 at *
  try simp only [Act.put, List.setIfInBounds_toArray, List.set_cons_zero, List.set_cons_succ]
  refine H.tk (i := 10) (v := ?v10) ?h10 hS ?_
  case h10 => (intro w hw; go_simp; first | done | (with_reducible rfl))
  try simp only [Act.put, List.setIfInBounds_toArray, List.set_cons_zero, List.set_cons_succ]
  refine wpAnyH_ready (rs := [11]) (by kernel_rfl) (by simp) ?_
  refine AllReadyH.cons rfl (fun K hK => ?_) AllReadyH.nil
  have cx := X0.out.cs.c9
  have fx := X0.out.frozen 9
  go_simp
  have X0 := Lib.hid (X0.out.set (i := 9) (v := .string (c.nx f)) (m' := { m0 with id := c.id, next := c.nx f }) rfl)
  have R0 := Lib.hid (R0.out.off (p := ⟨gx, 9, none⟩) (by show w.heap.size + 1 + 1 ≠ gx; omega) (.string (c.nx f)))
  have HB := Lib.hid (HB.out.setCell (p := ⟨gx, 9, none⟩) (by show w.heap.size ≤ gx; omega) (.string (c.nx f)))
  refine hK.out _ _ ⟨hS.1.off (p := ⟨gx, 9, none⟩) (by show w.heap.size ≠ gx; omega) (.string (c.nx f)), hS.2.off (p := ⟨gx, 9, none⟩) (by show w.heap.size + 1 ≠ gx; omega) (.string (c.nx f))⟩ (fun hS' => ?_)
  clear hK K hS cx fx
  have hS := hS'
  clear hS'
  generalize World.setCell _ ⟨gx, 9, none⟩ _ = Y11 at *
  try simp only [Act.put, List.setIfInBounds_toArray, List.set_cons_zero, List.set_cons_succ]
  refine wpAnyH_done (by kernel_rfl) ?_ _
  go_wp2_with (first | (refine wpList_loadM (b := gx) (m := { m0 with id := c.id, next := c.nx f }) rfl _ rfl rfl X0.out ?_) | (refine wpList_storeM (b := w.heap.size + 1 + 1) (m := M.zero) (m' := { m0 with id := c.id, next := c.nx f }) rfl _ _ rfl rfl rfl R0.out ?_))
  exact bodyPost_ret (v := .tuple #[.agg (M.cells { m0 with id := c.id, next := c.nx f }), .bool true]) (results_pair rfl _ _ (w.heap.size + 1 + 1) _ rfl (Own.loadVarM (R0.out.put (m' := { m0 with id := c.id, next := c.nx f }))) (.bool true) rfl) rfl ⟨by rw [HK.out, HT.out], Box.below_setRow HB.out (by omega) _⟩
end Go.Proofs.YtjhfpobjbijcpaaGreatDoor.K7
