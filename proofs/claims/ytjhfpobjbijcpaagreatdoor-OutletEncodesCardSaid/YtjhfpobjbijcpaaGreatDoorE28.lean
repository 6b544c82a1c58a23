/-
  Whether a message may be: the program's answer and the document's. Conditions: the message's lists stand in the world, and aren't long; the variable has what it is laid with.
-/
import Derived.Test.YtjhfpobjbijcpaaGreatDoorE07
import Derived.Test.YtjhfpobjbijcpaaGreatDoorE12
import Derived.Test.YtjhfpobjbijcpaaGreatDoorE14
import Derived.Test.YtjhfpobjbijcpaaGreatDoorE17
import Derived.Test.YtjhfpobjbijcpaaGreatDoorE22
namespace Go.Proofs.YtjhfpobjbijcpaaGreatDoor.G2
open Go.ChangeShapes Go.WideShapes Go.ChangeAt Go.RowKit
open Go.Proofs.YtjhfpobjbijcpaaGreatDoor.Ms
open Go.Proofs.YtjhfpobjbijcpaaGreatDoor.Box
open Go.Proofs.YtjhfpobjbijcpaaGreatDoor.S1
open Go.Proofs.YtjhfpobjbijcpaaGreatDoor.Lk
open Go.Proofs.YtjhfpobjbijcpaaGreatDoor.G1
open Go.Proofs.YtjhfpobjbijcpaaGreatDoor.An
open Go.Proofs.YtjhfpobjbijcpaaGreatDoor.Tc
open Go.Proofs.YtjhfpobjbijcpaaGreatDoor.Oct (fitsB)
open Go.Proofs.YtjhfpobjbijcpaaGreatDoor.Hs (run_loadM)
open Go.Proofs.YtjhfpobjbijcpaaGreatDoor.Or (st_yes)
set_option linter.unusedVariables false
set_option maxRecDepth 100000
set_option maxRecDepth 100000
theorem bool_eq {a b : Bool} (h : a = b) : Ending.returned (.bool a) = .returned (.bool b) := by rw [h]
theorem pair_eq {s t : ByteArray} {b c : Bool} (h : s = t) (k : b = c) : Ending.returned (.tuple #[.string s, .bool b]) = .returned (.tuple #[.string t, .bool c]) := by rw [h, k]
theorem ae_any (n : Int) (w : World) : Calls Tryz.prog 141 #[.int .i64 n] w fun e w' => e = .returned (.bool (decide (0 ≤ n ∧ n ≤ 3))) ∧ w = w' := by
  by_cases h0 : 0 ≤ n
  rotate_left
  · rw [decide_eq_false (fun h => h0 h.1)]
    go_enter Tryz.func141, Tryz.ntmps141
    go_wp2
    go_ret
    exact ⟨rfl, rfl⟩
  by_cases h1 : n ≤ 3
  rotate_left
  · rw [decide_eq_false (fun h => h1 h.2)]
    go_enter Tryz.func141, Tryz.ntmps141
    go_wp2
    go_ret
    exact ⟨bool_eq (decide_eq_false (by omega)), rfl⟩
  rw [decide_eq_true ⟨h0, h1⟩]
  go_enter Tryz.func141, Tryz.ntmps141
  go_wp2
  go_ret
  exact ⟨bool_eq (decide_eq_true (by omega)), rfl⟩
set_option maxHeartbeats 1600000 in
theorem shorten_any (ae : Int) (a : ByteArray) (w : World) (ht : Tab w) : Calls Tryz.prog 119 #[.int .i64 ae, .string a] w fun e w' => e = .returned (.tuple #[.string (shT ae a), .bool (shB ae a)]) ∧ w = w' := by
  by_cases h3 : ae = 3
  · subst h3
    have P := Lib.hid (fun V => short_any a V)
    have HZ := Lib.hid (sh_3 a)
    clear ht
    go_enter Tryz.func119, Tryz.ntmps119
    go_wp2_with fail
    refine (P.out _).mono ?_
    rintro e w' ⟨rfl, rfl⟩
    go_wp2
    go_ret2
    exact ⟨pair_eq HZ.out.2.symm HZ.out.1.symm, rfl⟩
  have P := Lib.hid (fun V => ae_any ae V)
  have HS := Lib.hid (sh_n h3 a)
  by_cases hi : 0 ≤ ae ∧ ae ≤ 3
  rotate_left
  · have HZ := Lib.hid (show shB ae a = false ∧ shT ae a = ⟨#[]⟩ from by
      have e : shB ae a = false := by rw [HS.out.1, decide_eq_false hi]; rfl
      exact ⟨e, by rw [HS.out.2, e]; rfl⟩)
    rw [decide_eq_false hi] at P
    clear ht hi HS
    go_enter Tryz.func119, Tryz.ntmps119
    go_wp2_with fail
    refine (P.out _).mono ?_
    rintro e w' ⟨rfl, rfl⟩
    go_wp2
    go_ret2
    exact ⟨pair_eq HZ.out.2.symm HZ.out.1.symm, rfl⟩
  rw [decide_eq_true hi] at P
  rw [decide_eq_true hi] at HS
  obtain ⟨s0, s1, s2, s3⟩ := ht
  rcases (show ae = 0 ∨ ae = 1 ∨ ae = 2 by omega) with rfl | rfl | rfl
  · by_cases hz : a.size = 0
    · have hq : (a.size : Int) = 0 := by omega
      have HZ := Lib.hid (show shB 0 a = true ∧ shT 0 a = a from by
        have e : shB 0 a = true := by rw [HS.out.1, decide_eq_true (show a.size = sizeA 0 from hz)]; rfl
        exact ⟨e, by rw [HS.out.2, e]; rfl⟩)
      clear hz hi h3 HS
      go_enter Tryz.func119, Tryz.ntmps119
      go_wp2_with fail
      refine (P.out _).mono ?_
      rintro e w' ⟨rfl, rfl⟩
      go_wp2
      go_ret2
      exact ⟨pair_eq HZ.out.2.symm HZ.out.1.symm, rfl⟩
    · have hq : ((a.size : Int) == 0) = false := by simpa using (show ¬ (a.size : Int) = 0 by omega)
      have hq2 : ((a.size : Int) != 0) = true := by rw [bne, hq]; rfl
      have HZ := Lib.hid (show shB 0 a = false ∧ shT 0 a = ⟨#[]⟩ from by
        have e : shB 0 a = false := by rw [HS.out.1, decide_eq_false (show ¬ a.size = sizeA 0 from hz)]; rfl
        exact ⟨e, by rw [HS.out.2, e]; rfl⟩)
      clear hz hi h3 HS
      go_enter Tryz.func119, Tryz.ntmps119
      go_wp2_with fail
      refine (P.out _).mono ?_
      rintro e w' ⟨rfl, rfl⟩
      go_wp2
      go_ret2
      exact ⟨pair_eq HZ.out.2.symm HZ.out.1.symm, rfl⟩
  · by_cases hz : a.size = 4
    · have hq : (a.size : Int) = 4 := by omega
      have HZ := Lib.hid (show shB 1 a = true ∧ shT 1 a = a from by
        have e : shB 1 a = true := by rw [HS.out.1, decide_eq_true (show a.size = sizeA 1 from hz)]; rfl
        exact ⟨e, by rw [HS.out.2, e]; rfl⟩)
      clear hz hi h3 HS
      go_enter Tryz.func119, Tryz.ntmps119
      go_wp2_with fail
      refine (P.out _).mono ?_
      rintro e w' ⟨rfl, rfl⟩
      go_wp2
      go_ret2
      exact ⟨pair_eq HZ.out.2.symm HZ.out.1.symm, rfl⟩
    · have hq : ((a.size : Int) == 4) = false := by simpa using (show ¬ (a.size : Int) = 4 by omega)
      have hq2 : ((a.size : Int) != 4) = true := by rw [bne, hq]; rfl
      have HZ := Lib.hid (show shB 1 a = false ∧ shT 1 a = ⟨#[]⟩ from by
        have e : shB 1 a = false := by rw [HS.out.1, decide_eq_false (show ¬ a.size = sizeA 1 from hz)]; rfl
        exact ⟨e, by rw [HS.out.2, e]; rfl⟩)
      clear hz hi h3 HS
      go_enter Tryz.func119, Tryz.ntmps119
      go_wp2_with fail
      refine (P.out _).mono ?_
      rintro e w' ⟨rfl, rfl⟩
      go_wp2
      go_ret2
      exact ⟨pair_eq HZ.out.2.symm HZ.out.1.symm, rfl⟩
  · by_cases hz : a.size = 16
    · have hq : (a.size : Int) = 16 := by omega
      have HZ := Lib.hid (show shB 2 a = true ∧ shT 2 a = a from by
        have e : shB 2 a = true := by rw [HS.out.1, decide_eq_true (show a.size = sizeA 2 from hz)]; rfl
        exact ⟨e, by rw [HS.out.2, e]; rfl⟩)
      clear hz hi h3 HS
      go_enter Tryz.func119, Tryz.ntmps119
      go_wp2_with fail
      refine (P.out _).mono ?_
      rintro e w' ⟨rfl, rfl⟩
      go_wp2
      go_ret2
      exact ⟨pair_eq HZ.out.2.symm HZ.out.1.symm, rfl⟩
    · have hq : ((a.size : Int) == 16) = false := by simpa using (show ¬ (a.size : Int) = 16 by omega)
      have hq2 : ((a.size : Int) != 16) = true := by rw [bne, hq]; rfl
      have HZ := Lib.hid (show shB 2 a = false ∧ shT 2 a = ⟨#[]⟩ from by
        have e : shB 2 a = false := by rw [HS.out.1, decide_eq_false (show ¬ a.size = sizeA 2 from hz)]; rfl
        exact ⟨e, by rw [HS.out.2, e]; rfl⟩)
      clear hz hi h3 HS
      go_enter Tryz.func119, Tryz.ntmps119
      go_wp2_with fail
      refine (P.out _).mono ?_
      rintro e w' ⟨rfl, rfl⟩
      go_wp2
      go_ret2
      exact ⟨pair_eq HZ.out.2.symm HZ.out.1.symm, rfl⟩
set_option maxHeartbeats 3200000 in
theorem nums_any (m : M) (w : World) : Calls Tryz.prog 97 #[.agg m.cells] w fun e w' => e = .returned (.bool (nums m)) ∧ Below w.heap.size w w' := by
  have HB := Lib.hid (balloc (Below.refl _ w) (.cells m.cells 38))
  have b0 := Bx.new w m
  have HK := Lib.hid (show nums m = (fitsB m.nonce 2 && (fitsB m.interval 2 && (fitsB m.seq 2 && fitsB m.cost 2))) from rfl)
  have P1 := Lib.hid (fun V => Oct.fits_any m.nonce 2 V)
  have P2 := Lib.hid (fun V => Oct.fits_any m.interval 2 V)
  have P3 := Lib.hid (fun V => Oct.fits_any m.seq 2 V)
  have P4 := Lib.hid (fun V => Oct.fits_any m.cost 2 V)
  generalize nums m = y at *
  generalize fitsB m.nonce 2 = x1 at *
  generalize fitsB m.interval 2 = x2 at *
  generalize fitsB m.seq 2 = x3 at *
  generalize fitsB m.cost 2 = x4 at *
  go_enter Tryz.func97, Tryz.ntmps97
  go_upto_region 1 with fail
  generalize w.alloc (.cells m.cells 38) = V at *
  have c17 := b0.cs.c17
  have c14 := b0.cs.c14
  have c12 := b0.cs.c12
  have c18 := b0.cs.c18
  clear b0
  cases x1
  · go_wp2_with fail
    refine (P1.out _).mono ?_
    rintro r w' ⟨rfl, rfl⟩
    go_wp2
    go_ret
    exact ⟨bool_eq HK.out.symm, HB.out⟩
  cases x2
  · go_wp2_with fail
    refine (P1.out _).mono ?_
    rintro r w' ⟨rfl, rfl⟩
    go_wp2_with fail
    refine (P2.out _).mono ?_
    rintro r w' ⟨rfl, rfl⟩
    go_wp2
    go_ret
    exact ⟨bool_eq HK.out.symm, HB.out⟩
  cases x3
  · go_wp2_with fail
    refine (P1.out _).mono ?_
    rintro r w' ⟨rfl, rfl⟩
    go_wp2_with fail
    refine (P2.out _).mono ?_
    rintro r w' ⟨rfl, rfl⟩
    go_wp2_with fail
    refine (P3.out _).mono ?_
    rintro r w' ⟨rfl, rfl⟩
    go_wp2
    go_ret
    exact ⟨bool_eq HK.out.symm, HB.out⟩
  go_wp2_with fail
  refine (P1.out _).mono ?_
  rintro r w' ⟨rfl, rfl⟩
  go_wp2_with fail
  refine (P2.out _).mono ?_
  rintro r w' ⟨rfl, rfl⟩
  go_wp2_with fail
  refine (P3.out _).mono ?_
  rintro r w' ⟨rfl, rfl⟩
  go_wp2_with fail
  refine (P4.out _).mono ?_
  rintro r w' ⟨rfl, rfl⟩
  go_wp2
  go_ret
  exact ⟨bool_eq HK.out.symm, HB.out⟩
set_option maxHeartbeats 3200000 in
theorem kind_any (m : M) (w : World) (ht : Tab w) : Calls Tryz.prog 98 #[.agg m.cells] w fun e w' => e = .returned (.bool (kindB m)) ∧ Below w.heap.size w w' := by
  have HB := Lib.hid (balloc (Below.refl _ w) (.cells m.cells 38))
  have b0 := Bx.new w m
  have P := Lib.hid (fun (h : Tab w) => shorten_any m.ae m.addr _ (h.below HB.out))
  have P := Lib.hid (P.out ht)
  clear ht
  by_cases h7 : m.kind = 7
  · have HK := Lib.hid (show kindB m = true by unfold kindB; rw [if_pos (.inl h7)])
    go_enter Tryz.func98, Tryz.ntmps98
    go_upto_region 1 with fail
    generalize w.alloc (.cells m.cells 38) = V at *
    have c0 := b0.cs.c0
    have c5 := b0.cs.c5
    have c15 := b0.cs.c15
    have c19 := b0.cs.c19
    clear b0
    rw [h7] at c0
    go_wp2
    go_ret
    exact ⟨bool_eq HK.out.symm, HB.out⟩
  by_cases h8 : m.kind = 8
  · have HK := Lib.hid (show kindB m = true by unfold kindB; rw [if_pos (.inr h8)])
    go_enter Tryz.func98, Tryz.ntmps98
    go_upto_region 1 with fail
    generalize w.alloc (.cells m.cells 38) = V at *
    have c0 := b0.cs.c0
    have c5 := b0.cs.c5
    have c15 := b0.cs.c15
    have c19 := b0.cs.c19
    clear b0
    rw [h8] at c0
    go_wp2
    go_ret
    exact ⟨bool_eq HK.out.symm, HB.out⟩
  by_cases h9 : m.kind = 9
  · by_cases g0 : 0 ≤ m.flags
    rotate_left
    · have HK := Lib.hid (show kindB m = false by unfold kindB; rw [if_neg (by omega), if_pos h9, decide_eq_false (fun h => g0 h.1)])
      go_enter Tryz.func98, Tryz.ntmps98
      go_upto_region 1 with fail
      generalize w.alloc (.cells m.cells 38) = V at *
      have c0 := b0.cs.c0
      have c5 := b0.cs.c5
      have c15 := b0.cs.c15
      have c19 := b0.cs.c19
      clear b0
      rw [h9] at c0
      clear h7 h8 h9
      go_wp2
      go_ret
      exact ⟨bool_eq HK.out.symm, HB.out⟩
    by_cases g1 : m.flags ≤ 1
    rotate_left
    · have HK := Lib.hid (show kindB m = false by unfold kindB; rw [if_neg (by omega), if_pos h9, decide_eq_false (fun h => g1 h.2)])
      go_enter Tryz.func98, Tryz.ntmps98
      go_upto_region 1 with fail
      generalize w.alloc (.cells m.cells 38) = V at *
      have c0 := b0.cs.c0
      have c5 := b0.cs.c5
      have c15 := b0.cs.c15
      have c19 := b0.cs.c19
      clear b0
      rw [h9] at c0
      clear h7 h8 h9
      go_wp2
      go_ret
      exact ⟨bool_eq HK.out.symm, HB.out⟩
    have HK := Lib.hid (show kindB m = true by unfold kindB; rw [if_neg (by omega), if_pos h9, decide_eq_true ⟨g0, g1⟩])
    go_enter Tryz.func98, Tryz.ntmps98
    go_upto_region 1 with fail
    generalize w.alloc (.cells m.cells 38) = V at *
    have c0 := b0.cs.c0
    have c5 := b0.cs.c5
    have c15 := b0.cs.c15
    have c19 := b0.cs.c19
    clear b0
    rw [h9] at c0
    clear h7 h8 h9
    go_wp2
    go_ret
    exact ⟨bool_eq HK.out.symm, HB.out⟩
  by_cases h10 : m.kind = 10
  · have HK := Lib.hid (show kindB m = shB m.ae m.addr by unfold kindB; rw [if_neg (by omega), if_neg h9, if_pos h10])
    go_enter Tryz.func98, Tryz.ntmps98
    go_upto_region 1 with fail
    generalize w.alloc (.cells m.cells 38) = V at *
    have c0 := b0.cs.c0
    have c5 := b0.cs.c5
    have c15 := b0.cs.c15
    have c19 := b0.cs.c19
    clear b0
    rw [h10] at c0
    clear h7 h8 h9 h10
    go_wp2_with fail
    refine P.out.mono ?_
    rintro r w' ⟨rfl, rfl⟩
    go_wp2
    go_ret
    exact ⟨bool_eq HK.out.symm, HB.out⟩
  have HK := Lib.hid (show kindB m = false by unfold kindB; rw [if_neg (by omega), if_neg h9, if_neg h10])
  have e7 : (m.kind == 7) = false := by simpa using h7
  have e8 : (m.kind == 8) = false := by simpa using h8
  have e9 : (m.kind == 9) = false := by simpa using h9
  have e10 : (m.kind == 10) = false := by simpa using h10
  go_enter Tryz.func98, Tryz.ntmps98
  go_upto_region 1 with fail
  generalize w.alloc (.cells m.cells 38) = V at *
  have c0 := b0.cs.c0
  have c5 := b0.cs.c5
  have c15 := b0.cs.c15
  have c19 := b0.cs.c19
  clear b0
  go_wp2
  go_ret
  exact ⟨bool_eq HK.out.symm, HB.out⟩
theorem mbare_any (m : M) (w : World) (hm : m.In w) : Calls Tryz.prog 75 #[.agg m.cells] w fun e w' => e = .returned (.bool (bare m)) ∧ Below w.heap.size w w' := Bare.bare_any m w hm
theorem mrbare_any (m : M) (w : World) (hm : m.In w) : Calls Tryz.prog 54 #[.agg m.cells] w fun e w' => e = .returned (.bool (bare m)) ∧ Below w.heap.size w w' := Bare.rbare_any m w hm
set_option maxHeartbeats 6400000 in
theorem right_any (m : M) (w : World) (hm : m.In w) (lb : ∀ x ∈ m.sl, x.1.size ≤ 1099511627776) (ht : Tab w) : Calls Tryz.prog 72 #[.agg m.cells] w fun e w' => e = .returned (.bool (okF m)) ∧ Below w.heap.size w w' := by
  have HF := Lib.hid (Fs.new w m hm)
  have HM := Lib.hid (ht.below (balloc (Below.refl _ w) (.cells m.cells 38)))
  have HK := Lib.hid (show okF m = (bare m && (okS m.sl && (nums m && kindB m))) from rfl)
  have P1 := Lib.hid (fun V (h : m.In V) => mbare_any m V h)
  have P2 := Lib.hid (fun V (h : m.In V) => S2.right_any m.sa m.sc m.sl V h.s h.sl lb)
  have P3 := Lib.hid (fun V => nums_any m V)
  have P4 := Lib.hid (fun V (h : Tab V) => kind_any m V h)
  clear lb hm ht
  generalize okF m = y at *
  generalize bare m = x1 at *
  generalize okS m.sl = x2 at *
  generalize nums m = x3 at *
  generalize kindB m = x4 at *
  go_enter Tryz.func72, Tryz.ntmps72
  go_upto_region 1 with fail
  generalize w.alloc (.cells m.cells 38) = V at *
  have c24 := HF.out.m.cs.c24
  cases x1
  · go_wp2_with (first | (refine st_yes (v := .agg (M.cells m)) (by rfl) rfl (run_loadM (x := .tmp 1) rfl rfl HF.out.m) ?_))
    refine (P1.out _ HF.out.i).mono ?_
    rintro r w' ⟨rfl, hb⟩
    have HM := Lib.hid (HM.out.below hb)
    have HF := Lib.hid (HF.out.call hb)
    clear hb c24
    have c24 := HF.out.m.cs.c24
    go_wp2_with (first | (refine st_yes (v := .agg (M.cells m)) (by rfl) rfl (run_loadM (x := .tmp 1) rfl rfl HF.out.m) ?_))
    go_ret
    exact ⟨bool_eq HK.out.symm, HF.out.bel⟩
  cases x2
  · go_wp2_with (first | (refine st_yes (v := .agg (M.cells m)) (by rfl) rfl (run_loadM (x := .tmp 1) rfl rfl HF.out.m) ?_))
    refine (P1.out _ HF.out.i).mono ?_
    rintro r w' ⟨rfl, hb⟩
    have HM := Lib.hid (HM.out.below hb)
    have HF := Lib.hid (HF.out.call hb)
    clear hb c24
    have c24 := HF.out.m.cs.c24
    go_wp2_with (first | (refine st_yes (v := .agg (M.cells m)) (by rfl) rfl (run_loadM (x := .tmp 1) rfl rfl HF.out.m) ?_))
    refine (P2.out _ HF.out.i).mono ?_
    rintro r w' ⟨rfl, hb⟩
    have HM := Lib.hid (HM.out.below hb)
    have HF := Lib.hid (HF.out.call hb)
    clear hb c24
    have c24 := HF.out.m.cs.c24
    go_wp2_with (first | (refine st_yes (v := .agg (M.cells m)) (by rfl) rfl (run_loadM (x := .tmp 1) rfl rfl HF.out.m) ?_))
    go_ret
    exact ⟨bool_eq HK.out.symm, HF.out.bel⟩
  cases x3
  · go_wp2_with (first | (refine st_yes (v := .agg (M.cells m)) (by rfl) rfl (run_loadM (x := .tmp 1) rfl rfl HF.out.m) ?_))
    refine (P1.out _ HF.out.i).mono ?_
    rintro r w' ⟨rfl, hb⟩
    have HM := Lib.hid (HM.out.below hb)
    have HF := Lib.hid (HF.out.call hb)
    clear hb c24
    have c24 := HF.out.m.cs.c24
    go_wp2_with (first | (refine st_yes (v := .agg (M.cells m)) (by rfl) rfl (run_loadM (x := .tmp 1) rfl rfl HF.out.m) ?_))
    refine (P2.out _ HF.out.i).mono ?_
    rintro r w' ⟨rfl, hb⟩
    have HM := Lib.hid (HM.out.below hb)
    have HF := Lib.hid (HF.out.call hb)
    clear hb c24
    have c24 := HF.out.m.cs.c24
    go_wp2_with (first | (refine st_yes (v := .agg (M.cells m)) (by rfl) rfl (run_loadM (x := .tmp 1) rfl rfl HF.out.m) ?_))
    refine (P3.out _).mono ?_
    rintro r w' ⟨rfl, hb⟩
    have HM := Lib.hid (HM.out.below hb)
    have HF := Lib.hid (HF.out.call hb)
    clear hb c24
    have c24 := HF.out.m.cs.c24
    go_wp2_with (first | (refine st_yes (v := .agg (M.cells m)) (by rfl) rfl (run_loadM (x := .tmp 1) rfl rfl HF.out.m) ?_))
    go_ret
    exact ⟨bool_eq HK.out.symm, HF.out.bel⟩
  go_wp2_with (first | (refine st_yes (v := .agg (M.cells m)) (by rfl) rfl (run_loadM (x := .tmp 1) rfl rfl HF.out.m) ?_))
  refine (P1.out _ HF.out.i).mono ?_
  rintro r w' ⟨rfl, hb⟩
  have HM := Lib.hid (HM.out.below hb)
  have HF := Lib.hid (HF.out.call hb)
  clear hb c24
  have c24 := HF.out.m.cs.c24
  go_wp2_with (first | (refine st_yes (v := .agg (M.cells m)) (by rfl) rfl (run_loadM (x := .tmp 1) rfl rfl HF.out.m) ?_))
  refine (P2.out _ HF.out.i).mono ?_
  rintro r w' ⟨rfl, hb⟩
  have HM := Lib.hid (HM.out.below hb)
  have HF := Lib.hid (HF.out.call hb)
  clear hb c24
  have c24 := HF.out.m.cs.c24
  go_wp2_with (first | (refine st_yes (v := .agg (M.cells m)) (by rfl) rfl (run_loadM (x := .tmp 1) rfl rfl HF.out.m) ?_))
  refine (P3.out _).mono ?_
  rintro r w' ⟨rfl, hb⟩
  have HM := Lib.hid (HM.out.below hb)
  have HF := Lib.hid (HF.out.call hb)
  clear hb c24
  have c24 := HF.out.m.cs.c24
  go_wp2_with (first | (refine st_yes (v := .agg (M.cells m)) (by rfl) rfl (run_loadM (x := .tmp 1) rfl rfl HF.out.m) ?_))
  refine (P4.out _ HM.out).mono ?_
  rintro r w' ⟨rfl, hb⟩
  have HM := Lib.hid (HM.out.below hb)
  have HF := Lib.hid (HF.out.call hb)
  clear hb c24
  have c24 := HF.out.m.cs.c24
  go_wp2
  go_ret
  exact ⟨bool_eq HK.out.symm, HF.out.bel⟩
theorem two_any (n : Int) (w : World) : Calls Tryz.prog 56 #[.int .i64 n] w fun e w' => e = .returned (.bool (fitsB n 2)) ∧ w = w' := by
  have P := Lib.hid (fun V => Oct.rfits_any n 2 V)
  generalize fitsB n 2 = x at *
  go_enter Tryz.func56, Tryz.ntmps56
  go_wp2_with fail
  refine (P.out _).mono ?_
  rintro r w' ⟨rfl, rfl⟩
  go_wp2
  go_ret
  exact ⟨rfl, rfl⟩
theorem size_eq (a : ByteArray) (k : Nat) : ((a.size : Int) == (k : Int)) = decide (a.size = k) := by rw [Bool.eq_iff_iff]; simp; omega
theorem raddr_any (ae : Int) (a : ByteArray) (w : World) : Calls Tryz.prog 57 #[.int .i64 ae, .string a] w fun e w' => e = .returned (.bool (shB ae a)) ∧ Below w.heap.size w w' := by
  by_cases h3 : ae = 3
  · subst h3
    have P := Lib.hid (fun V => rlink_bel a V)
    have HK := Lib.hid (show shB 3 a = link a from rfl)
    generalize link a = x at *
    generalize shB 3 a = y at *
    go_enter Tryz.func57, Tryz.ntmps57
    go_wp2_with fail
    refine (P.out _).mono ?_
    rintro r w' ⟨rfl, hb⟩
    go_wp2
    go_ret
    exact ⟨bool_eq HK.out.symm, hb⟩
  have HS := Lib.hid (sh_n h3 a).1
  by_cases h0 : ae = 0
  · subst h0
    have HK := Lib.hid (show shB 0 a = decide (a.size = 0) by rw [HS.out]; rfl)
    have he : (a.toList == ([] : List UInt8)) = decide (a.size = 0) := by
      rw [Bool.eq_iff_iff, beq_iff_eq, decide_eq_true_eq, ByteArray.toList_eq, ← size_list, List.length_eq_zero_iff]
    have he2 : a.toList.isEmpty = decide (a.size = 0) := by rw [← he]; cases a.toList <;> rfl
    generalize decide (a.size = 0) = z at *
    go_enter Tryz.func57, Tryz.ntmps57
    go_wp2
    go_ret
    exact ⟨bool_eq (by rw [HK.out]), Below.refl _ _⟩
  by_cases h1 : ae = 1
  · subst h1
    have HK := Lib.hid (show shB 1 a = decide (a.size = 4) by rw [HS.out]; rfl)
    have he : ((a.size : Int) == 4) = decide (a.size = 4) := size_eq a 4
    generalize decide (a.size = 4) = z at *
    go_enter Tryz.func57, Tryz.ntmps57
    go_wp2
    go_ret
    exact ⟨bool_eq (by rw [HK.out]), Below.refl _ _⟩
  by_cases h2 : ae = 2
  · subst h2
    have HK := Lib.hid (show shB 2 a = decide (a.size = 16) by rw [HS.out]; rfl)
    have he : ((a.size : Int) == 16) = decide (a.size = 16) := size_eq a 16
    generalize decide (a.size = 16) = z at *
    go_enter Tryz.func57, Tryz.ntmps57
    go_wp2
    go_ret
    exact ⟨bool_eq (by rw [HK.out]), Below.refl _ _⟩
  have HK := Lib.hid (show shB ae a = false by rw [HS.out, decide_eq_false (by omega)]; rfl)
  have e0 : (ae == 0) = false := by simpa using h0
  have e1 : (ae == 1) = false := by simpa using h1
  have e2 : (ae == 2) = false := by simpa using h2
  have e3 : (ae == 3) = false := by simpa using h3
  go_enter Tryz.func57, Tryz.ntmps57
  go_wp2
  go_ret
  exact ⟨bool_eq HK.out.symm, Below.refl _ _⟩
set_option maxHeartbeats 6400000 in
theorem rright_any (m : M) (w : World) (hm : m.In w) (lb : ∀ x ∈ m.sl, x.1.size ≤ 1099511627776) : Calls Tryz.prog 33 #[.agg m.cells] w fun e w' => e = .returned (.bool (okF m)) ∧ Below w.heap.size w w' := by
  have HF := Lib.hid (Fs.new w m hm)
  have HK := Lib.hid (show okF m = (bare m && (okS m.sl && ((fitsB m.nonce 2 && (fitsB m.interval 2 && (fitsB m.seq 2 && fitsB m.cost 2))) && kindB m))) from rfl)
  have P1 := Lib.hid (fun V (h : m.In V) => mrbare_any m V h)
  have P2 := Lib.hid (fun V (h : m.In V) => S2.rright_any m.sa m.sc m.sl V h.s h.sl lb)
  have P3 := Lib.hid (fun V => two_any m.nonce V)
  have P4 := Lib.hid (fun V => two_any m.interval V)
  have P5 := Lib.hid (fun V => two_any m.seq V)
  have P6 := Lib.hid (fun V => two_any m.cost V)
  have P7 := Lib.hid (fun V => raddr_any m.ae m.addr V)
  have HQ := Lib.hid (show kindB m = if m.kind = 7 ∨ m.kind = 8 then true else if m.kind = 9 then decide (0 ≤ m.flags ∧ m.flags ≤ 1) else if m.kind = 10 then shB m.ae m.addr else false from rfl)
  clear lb hm
  generalize okF m = y at *
  generalize bare m = x1 at *
  generalize okS m.sl = x2 at *
  generalize fitsB m.nonce 2 = x3 at *
  generalize fitsB m.interval 2 = x4 at *
  generalize fitsB m.seq 2 = x5 at *
  generalize fitsB m.cost 2 = x6 at *
  generalize kindB m = x7 at *
  go_enter Tryz.func33, Tryz.ntmps33
  go_upto_region 1 with fail
  generalize w.alloc (.cells m.cells 38) = V at *
  have c0 := HF.out.m.cs.c0
  have c5 := HF.out.m.cs.c5
  have c12 := HF.out.m.cs.c12
  have c14 := HF.out.m.cs.c14
  have c15 := HF.out.m.cs.c15
  have c17 := HF.out.m.cs.c17
  have c18 := HF.out.m.cs.c18
  have c19 := HF.out.m.cs.c19
  have c24 := HF.out.m.cs.c24
  cases x1
  · go_wp2_with (first | (refine st_yes (v := .agg (M.cells m)) (by rfl) rfl (run_loadM (x := .tmp 1) rfl rfl HF.out.m) ?_))
    refine (P1.out _ HF.out.i).mono ?_
    rintro r w' ⟨rfl, hb⟩
    have HF := Lib.hid (HF.out.call hb)
    clear hb c0 c5 c12 c14 c15 c17 c18 c19 c24
    have c0 := HF.out.m.cs.c0
    have c5 := HF.out.m.cs.c5
    have c12 := HF.out.m.cs.c12
    have c14 := HF.out.m.cs.c14
    have c15 := HF.out.m.cs.c15
    have c17 := HF.out.m.cs.c17
    have c18 := HF.out.m.cs.c18
    have c19 := HF.out.m.cs.c19
    have c24 := HF.out.m.cs.c24
    go_wp2
    go_ret
    exact ⟨bool_eq HK.out.symm, HF.out.bel⟩
  cases x2
  · go_wp2_with (first | (refine st_yes (v := .agg (M.cells m)) (by rfl) rfl (run_loadM (x := .tmp 1) rfl rfl HF.out.m) ?_))
    refine (P1.out _ HF.out.i).mono ?_
    rintro r w' ⟨rfl, hb⟩
    have HF := Lib.hid (HF.out.call hb)
    clear hb c0 c5 c12 c14 c15 c17 c18 c19 c24
    have c0 := HF.out.m.cs.c0
    have c5 := HF.out.m.cs.c5
    have c12 := HF.out.m.cs.c12
    have c14 := HF.out.m.cs.c14
    have c15 := HF.out.m.cs.c15
    have c17 := HF.out.m.cs.c17
    have c18 := HF.out.m.cs.c18
    have c19 := HF.out.m.cs.c19
    have c24 := HF.out.m.cs.c24
    go_wp2_with (first | (refine st_yes (v := .agg (M.cells m)) (by rfl) rfl (run_loadM (x := .tmp 1) rfl rfl HF.out.m) ?_))
    refine (P2.out _ HF.out.i).mono ?_
    rintro r w' ⟨rfl, hb⟩
    have HF := Lib.hid (HF.out.call hb)
    clear hb c0 c5 c12 c14 c15 c17 c18 c19 c24
    have c0 := HF.out.m.cs.c0
    have c5 := HF.out.m.cs.c5
    have c12 := HF.out.m.cs.c12
    have c14 := HF.out.m.cs.c14
    have c15 := HF.out.m.cs.c15
    have c17 := HF.out.m.cs.c17
    have c18 := HF.out.m.cs.c18
    have c19 := HF.out.m.cs.c19
    have c24 := HF.out.m.cs.c24
    go_wp2
    go_ret
    exact ⟨bool_eq HK.out.symm, HF.out.bel⟩
  cases x3
  · go_wp2_with (first | (refine st_yes (v := .agg (M.cells m)) (by rfl) rfl (run_loadM (x := .tmp 1) rfl rfl HF.out.m) ?_))
    refine (P1.out _ HF.out.i).mono ?_
    rintro r w' ⟨rfl, hb⟩
    have HF := Lib.hid (HF.out.call hb)
    clear hb c0 c5 c12 c14 c15 c17 c18 c19 c24
    have c0 := HF.out.m.cs.c0
    have c5 := HF.out.m.cs.c5
    have c12 := HF.out.m.cs.c12
    have c14 := HF.out.m.cs.c14
    have c15 := HF.out.m.cs.c15
    have c17 := HF.out.m.cs.c17
    have c18 := HF.out.m.cs.c18
    have c19 := HF.out.m.cs.c19
    have c24 := HF.out.m.cs.c24
    go_wp2_with (first | (refine st_yes (v := .agg (M.cells m)) (by rfl) rfl (run_loadM (x := .tmp 1) rfl rfl HF.out.m) ?_))
    refine (P2.out _ HF.out.i).mono ?_
    rintro r w' ⟨rfl, hb⟩
    have HF := Lib.hid (HF.out.call hb)
    clear hb c0 c5 c12 c14 c15 c17 c18 c19 c24
    have c0 := HF.out.m.cs.c0
    have c5 := HF.out.m.cs.c5
    have c12 := HF.out.m.cs.c12
    have c14 := HF.out.m.cs.c14
    have c15 := HF.out.m.cs.c15
    have c17 := HF.out.m.cs.c17
    have c18 := HF.out.m.cs.c18
    have c19 := HF.out.m.cs.c19
    have c24 := HF.out.m.cs.c24
    go_wp2_with fail
    refine (P3.out _).mono ?_
    rintro r w' ⟨rfl, rfl⟩
    go_wp2
    go_ret
    exact ⟨bool_eq HK.out.symm, HF.out.bel⟩
  cases x4
  · go_wp2_with (first | (refine st_yes (v := .agg (M.cells m)) (by rfl) rfl (run_loadM (x := .tmp 1) rfl rfl HF.out.m) ?_))
    refine (P1.out _ HF.out.i).mono ?_
    rintro r w' ⟨rfl, hb⟩
    have HF := Lib.hid (HF.out.call hb)
    clear hb c0 c5 c12 c14 c15 c17 c18 c19 c24
    have c0 := HF.out.m.cs.c0
    have c5 := HF.out.m.cs.c5
    have c12 := HF.out.m.cs.c12
    have c14 := HF.out.m.cs.c14
    have c15 := HF.out.m.cs.c15
    have c17 := HF.out.m.cs.c17
    have c18 := HF.out.m.cs.c18
    have c19 := HF.out.m.cs.c19
    have c24 := HF.out.m.cs.c24
    go_wp2_with (first | (refine st_yes (v := .agg (M.cells m)) (by rfl) rfl (run_loadM (x := .tmp 1) rfl rfl HF.out.m) ?_))
    refine (P2.out _ HF.out.i).mono ?_
    rintro r w' ⟨rfl, hb⟩
    have HF := Lib.hid (HF.out.call hb)
    clear hb c0 c5 c12 c14 c15 c17 c18 c19 c24
    have c0 := HF.out.m.cs.c0
    have c5 := HF.out.m.cs.c5
    have c12 := HF.out.m.cs.c12
    have c14 := HF.out.m.cs.c14
    have c15 := HF.out.m.cs.c15
    have c17 := HF.out.m.cs.c17
    have c18 := HF.out.m.cs.c18
    have c19 := HF.out.m.cs.c19
    have c24 := HF.out.m.cs.c24
    go_wp2_with fail
    refine (P3.out _).mono ?_
    rintro r w' ⟨rfl, rfl⟩
    go_wp2_with fail
    refine (P4.out _).mono ?_
    rintro r w' ⟨rfl, rfl⟩
    go_wp2
    go_ret
    exact ⟨bool_eq HK.out.symm, HF.out.bel⟩
  cases x5
  · go_wp2_with (first | (refine st_yes (v := .agg (M.cells m)) (by rfl) rfl (run_loadM (x := .tmp 1) rfl rfl HF.out.m) ?_))
    refine (P1.out _ HF.out.i).mono ?_
    rintro r w' ⟨rfl, hb⟩
    have HF := Lib.hid (HF.out.call hb)
    clear hb c0 c5 c12 c14 c15 c17 c18 c19 c24
    have c0 := HF.out.m.cs.c0
    have c5 := HF.out.m.cs.c5
    have c12 := HF.out.m.cs.c12
    have c14 := HF.out.m.cs.c14
    have c15 := HF.out.m.cs.c15
    have c17 := HF.out.m.cs.c17
    have c18 := HF.out.m.cs.c18
    have c19 := HF.out.m.cs.c19
    have c24 := HF.out.m.cs.c24
    go_wp2_with (first | (refine st_yes (v := .agg (M.cells m)) (by rfl) rfl (run_loadM (x := .tmp 1) rfl rfl HF.out.m) ?_))
    refine (P2.out _ HF.out.i).mono ?_
    rintro r w' ⟨rfl, hb⟩
    have HF := Lib.hid (HF.out.call hb)
    clear hb c0 c5 c12 c14 c15 c17 c18 c19 c24
    have c0 := HF.out.m.cs.c0
    have c5 := HF.out.m.cs.c5
    have c12 := HF.out.m.cs.c12
    have c14 := HF.out.m.cs.c14
    have c15 := HF.out.m.cs.c15
    have c17 := HF.out.m.cs.c17
    have c18 := HF.out.m.cs.c18
    have c19 := HF.out.m.cs.c19
    have c24 := HF.out.m.cs.c24
    go_wp2_with fail
    refine (P3.out _).mono ?_
    rintro r w' ⟨rfl, rfl⟩
    go_wp2_with fail
    refine (P4.out _).mono ?_
    rintro r w' ⟨rfl, rfl⟩
    go_wp2_with fail
    refine (P5.out _).mono ?_
    rintro r w' ⟨rfl, rfl⟩
    go_wp2
    go_ret
    exact ⟨bool_eq HK.out.symm, HF.out.bel⟩
  cases x6
  · go_wp2_with (first | (refine st_yes (v := .agg (M.cells m)) (by rfl) rfl (run_loadM (x := .tmp 1) rfl rfl HF.out.m) ?_))
    refine (P1.out _ HF.out.i).mono ?_
    rintro r w' ⟨rfl, hb⟩
    have HF := Lib.hid (HF.out.call hb)
    clear hb c0 c5 c12 c14 c15 c17 c18 c19 c24
    have c0 := HF.out.m.cs.c0
    have c5 := HF.out.m.cs.c5
    have c12 := HF.out.m.cs.c12
    have c14 := HF.out.m.cs.c14
    have c15 := HF.out.m.cs.c15
    have c17 := HF.out.m.cs.c17
    have c18 := HF.out.m.cs.c18
    have c19 := HF.out.m.cs.c19
    have c24 := HF.out.m.cs.c24
    go_wp2_with (first | (refine st_yes (v := .agg (M.cells m)) (by rfl) rfl (run_loadM (x := .tmp 1) rfl rfl HF.out.m) ?_))
    refine (P2.out _ HF.out.i).mono ?_
    rintro r w' ⟨rfl, hb⟩
    have HF := Lib.hid (HF.out.call hb)
    clear hb c0 c5 c12 c14 c15 c17 c18 c19 c24
    have c0 := HF.out.m.cs.c0
    have c5 := HF.out.m.cs.c5
    have c12 := HF.out.m.cs.c12
    have c14 := HF.out.m.cs.c14
    have c15 := HF.out.m.cs.c15
    have c17 := HF.out.m.cs.c17
    have c18 := HF.out.m.cs.c18
    have c19 := HF.out.m.cs.c19
    have c24 := HF.out.m.cs.c24
    go_wp2_with fail
    refine (P3.out _).mono ?_
    rintro r w' ⟨rfl, rfl⟩
    go_wp2_with fail
    refine (P4.out _).mono ?_
    rintro r w' ⟨rfl, rfl⟩
    go_wp2_with fail
    refine (P5.out _).mono ?_
    rintro r w' ⟨rfl, rfl⟩
    go_wp2_with fail
    refine (P6.out _).mono ?_
    rintro r w' ⟨rfl, rfl⟩
    go_wp2
    go_ret
    exact ⟨bool_eq HK.out.symm, HF.out.bel⟩
  go_wp2_with (first | (refine st_yes (v := .agg (M.cells m)) (by rfl) rfl (run_loadM (x := .tmp 1) rfl rfl HF.out.m) ?_))
  refine (P1.out _ HF.out.i).mono ?_
  rintro r w' ⟨rfl, hb⟩
  have HF := Lib.hid (HF.out.call hb)
  clear hb c0 c5 c12 c14 c15 c17 c18 c19 c24
  have c0 := HF.out.m.cs.c0
  have c5 := HF.out.m.cs.c5
  have c12 := HF.out.m.cs.c12
  have c14 := HF.out.m.cs.c14
  have c15 := HF.out.m.cs.c15
  have c17 := HF.out.m.cs.c17
  have c18 := HF.out.m.cs.c18
  have c19 := HF.out.m.cs.c19
  have c24 := HF.out.m.cs.c24
  go_wp2_with (first | (refine st_yes (v := .agg (M.cells m)) (by rfl) rfl (run_loadM (x := .tmp 1) rfl rfl HF.out.m) ?_))
  refine (P2.out _ HF.out.i).mono ?_
  rintro r w' ⟨rfl, hb⟩
  have HF := Lib.hid (HF.out.call hb)
  clear hb c0 c5 c12 c14 c15 c17 c18 c19 c24
  have c0 := HF.out.m.cs.c0
  have c5 := HF.out.m.cs.c5
  have c12 := HF.out.m.cs.c12
  have c14 := HF.out.m.cs.c14
  have c15 := HF.out.m.cs.c15
  have c17 := HF.out.m.cs.c17
  have c18 := HF.out.m.cs.c18
  have c19 := HF.out.m.cs.c19
  have c24 := HF.out.m.cs.c24
  go_wp2_with fail
  refine (P3.out _).mono ?_
  rintro r w' ⟨rfl, rfl⟩
  go_wp2_with fail
  refine (P4.out _).mono ?_
  rintro r w' ⟨rfl, rfl⟩
  go_wp2_with fail
  refine (P5.out _).mono ?_
  rintro r w' ⟨rfl, rfl⟩
  go_wp2_with fail
  refine (P6.out _).mono ?_
  rintro r w' ⟨rfl, rfl⟩
  have HK := Lib.hid (show y = x7 from HK.out)
  by_cases h7 : m.kind = 7
  · rw [if_pos (.inl h7)] at HQ
    rw [h7] at c0
    go_wp2
    go_ret
    exact ⟨bool_eq (by rw [HK.out, HQ.out]), HF.out.bel⟩
  by_cases h8 : m.kind = 8
  · rw [if_pos (.inr h8)] at HQ
    rw [h8] at c0
    go_wp2
    go_ret
    exact ⟨bool_eq (by rw [HK.out, HQ.out]), HF.out.bel⟩
  by_cases h9 : m.kind = 9
  · rw [if_neg (by omega), if_pos h9] at HQ
    rw [h9] at c0
    clear h7 h8 h9
    by_cases g0 : m.flags = 0
    · rw [g0] at c15 HQ
      have HQ := Lib.hid (show x7 = true from HQ.out)
      go_wp2
      go_ret
      exact ⟨bool_eq (by rw [HK.out, HQ.out]), HF.out.bel⟩
    by_cases g1 : m.flags = 1
    · rw [g1] at c15 HQ
      have HQ := Lib.hid (show x7 = true from HQ.out)
      go_wp2
      go_ret
      exact ⟨bool_eq (by rw [HK.out, HQ.out]), HF.out.bel⟩
    rw [decide_eq_false (by omega)] at HQ
    have q0 : (m.flags == 0) = false := by simpa using g0
    have q1 : (m.flags == 1) = false := by simpa using g1
    go_wp2
    go_ret
    exact ⟨bool_eq (by rw [HK.out, HQ.out]), HF.out.bel⟩
  by_cases h10 : m.kind = 10
  · rw [if_neg (by omega), if_neg h9, if_pos h10] at HQ
    rw [h10] at c0
    clear h7 h8 h9 h10
    go_wp2_with fail
    refine (P7.out _).mono ?_
    rintro r w' ⟨rfl, hb⟩
    have HF := Lib.hid (HF.out.call hb)
    clear hb
    go_wp2
    go_ret
    exact ⟨bool_eq (by rw [HK.out, HQ.out]), HF.out.bel⟩
  rw [if_neg (by omega), if_neg h9, if_neg h10] at HQ
  have e7 : (m.kind == 7) = false := by simpa using h7
  have e8 : (m.kind == 8) = false := by simpa using h8
  have e9 : (m.kind == 9) = false := by simpa using h9
  have e10 : (m.kind == 10) = false := by simpa using h10
  go_wp2
  go_ret
  exact ⟨bool_eq (by rw [HK.out, HQ.out]), HF.out.bel⟩
end Go.Proofs.YtjhfpobjbijcpaaGreatDoor.G2
