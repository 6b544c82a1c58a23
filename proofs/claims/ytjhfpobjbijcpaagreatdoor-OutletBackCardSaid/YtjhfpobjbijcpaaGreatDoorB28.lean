/-
  Whether a message may be: the program's answer and the document's. Conditions: the message's lists stand in the world, and aren't long; the variable has what it is laid with.
  Bytes of a call's own, in a struct of its own: appended, turned into a string; what else stands beside them. No conditions.
-/
import Derived.Test.YtjhfpobjbijcpaaGreatDoorB01
import Derived.Test.YtjhfpobjbijcpaaGreatDoorB04
import Derived.Test.YtjhfpobjbijcpaaGreatDoorB09
import Derived.Test.YtjhfpobjbijcpaaGreatDoorB16
import Derived.Test.YtjhfpobjbijcpaaGreatDoorB17
import Derived.Test.YtjhfpobjbijcpaaGreatDoorB19
import Derived.Test.YtjhfpobjbijcpaaGreatDoorB22
import Derived.Lib.Builder
import Derived.Lib.AppendStr
namespace Go.Proofs.YtjhfpobjbijcpaaGreatDoor.G2
open Go.ChangeShapes Go.WideShapes Go.ChangeAt Go.RowKit
open Go.Proofs.YtjhfpobjbijcpaaGreatDoor.Ms
open Go.Proofs.YtjhfpobjbijcpaaGreatDoor.Box
open Go.Proofs.YtjhfpobjbijcpaaGreatDoor.S1
open Go.Proofs.YtjhfpobjbijcpaaGreatDoor.Lk
open Go.Proofs.YtjhfpobjbijcpaaGreatDoor.G1
open Go.Proofs.YtjhfpobjbijcpaaGreatDoor.An
open Go.Proofs.YtjhfpobjbijcpaaGreatDoor.Tc
open Go.Proofs.YtjhfpobjbijcpaaGreatDoor.Oct (fitsB)
open Go.Proofs.YtjhfpobjbijcpaaGreatDoor.Hs (run_loadM)
open Go.Proofs.YtjhfpobjbijcpaaGreatDoor.Or (st_yes)
set_option linter.unusedVariables false
set_option maxRecDepth 100000
set_option maxRecDepth 100000
theorem bool_eq {a b : Bool} (h : a = b) : Ending.returned (.bool a) = .returned (.bool b) := by rw [h]
theorem pair_eq {s t : ByteArray} {b c : Bool} (h : s = t) (k : b = c) : Ending.returned (.tuple #[.string s, .bool b]) = .returned (.tuple #[.string t, .bool c]) := by rw [h, k]
theorem ae_any (n : Int) (w : World) : Calls Tryz.prog 141 #[.int .i64 n] w fun e w' => e = .returned (.bool (decide (0 ≤ n ∧ n ≤ 3))) ∧ w = w' := by
  by_cases h0 : 0 ≤ n
  rotate_left
  · rw [decide_eq_false (fun h => h0 h.1)]
    go_enter Tryz.func141, Tryz.ntmps141
    go_wp2
    go_ret
    exact ⟨rfl, rfl⟩
  by_cases h1 : n ≤ 3
  rotate_left
  · rw [decide_eq_false (fun h => h1 h.2)]
    go_enter Tryz.func141, Tryz.ntmps141
    go_wp2
    go_ret
    exact ⟨bool_eq (decide_eq_false (by omega)), rfl⟩
  rw [decide_eq_true ⟨h0, h1⟩]
  go_enter Tryz.func141, Tryz.ntmps141
  go_wp2
  go_ret
  exact ⟨bool_eq (decide_eq_true (by omega)), rfl⟩
set_option maxHeartbeats 1600000 in
theorem shorten_any (ae : Int) (a : ByteArray) (w : World) (ht : Tab w) : Calls Tryz.prog 119 #[.int .i64 ae, .string a] w fun e w' => e = .returned (.tuple #[.string (shT ae a), .bool (shB ae a)]) ∧ w = w' := by
  by_cases h3 : ae = 3
  · subst h3
    have P := Lib.hid (fun V => short_any a V)
    have HZ := Lib.hid (sh_3 a)
    clear ht
    go_enter Tryz.func119, Tryz.ntmps119
    go_wp2_with fail
    refine (P.out _).mono ?_
    rintro e w' ⟨rfl, rfl⟩
    go_wp2
    go_ret2
    exact ⟨pair_eq HZ.out.2.symm HZ.out.1.symm, rfl⟩
  have P := Lib.hid (fun V => ae_any ae V)
  have HS := Lib.hid (sh_n h3 a)
  by_cases hi : 0 ≤ ae ∧ ae ≤ 3
  rotate_left
  · have HZ := Lib.hid (show shB ae a = false ∧ shT ae a = ⟨#[]⟩ from by
      have e : shB ae a = false := by rw [HS.out.1, decide_eq_false hi]; rfl
      exact ⟨e, by rw [HS.out.2, e]; rfl⟩)
    rw [decide_eq_false hi] at P
    clear ht hi HS
    go_enter Tryz.func119, Tryz.ntmps119
    go_wp2_with fail
    refine (P.out _).mono ?_
    rintro e w' ⟨rfl, rfl⟩
    go_wp2
    go_ret2
    exact ⟨pair_eq HZ.out.2.symm HZ.out.1.symm, rfl⟩
  rw [decide_eq_true hi] at P
  rw [decide_eq_true hi] at HS
  obtain ⟨s0, s1, s2, s3⟩ := ht
  rcases (show ae = 0 ∨ ae = 1 ∨ ae = 2 by omega) with rfl | rfl | rfl
  · by_cases hz : a.size = 0
    · have hq : (a.size : Int) = 0 := by omega
      have HZ := Lib.hid (show shB 0 a = true ∧ shT 0 a = a from by
        have e : shB 0 a = true := by rw [HS.out.1, decide_eq_true (show a.size = sizeA 0 from hz)]; rfl
        exact ⟨e, by rw [HS.out.2, e]; rfl⟩)
      clear hz hi h3 HS
      go_enter Tryz.func119, Tryz.ntmps119
      go_wp2_with fail
      refine (P.out _).mono ?_
      rintro e w' ⟨rfl, rfl⟩
      go_wp2
      go_ret2
      exact ⟨pair_eq HZ.out.2.symm HZ.out.1.symm, rfl⟩
    · have hq : ((a.size : Int) == 0) = false := by simpa using (show ¬ (a.size : Int) = 0 by omega)
      have hq2 : ((a.size : Int) != 0) = true := by rw [bne, hq]; rfl
      have HZ := Lib.hid (show shB 0 a = false ∧ shT 0 a = ⟨#[]⟩ from by
        have e : shB 0 a = false := by rw [HS.out.1, decide_eq_false (show ¬ a.size = sizeA 0 from hz)]; rfl
        exact ⟨e, by rw [HS.out.2, e]; rfl⟩)
      clear hz hi h3 HS
      go_enter Tryz.func119, Tryz.ntmps119
      go_wp2_with fail
      refine (P.out _).mono ?_
      rintro e w' ⟨rfl, rfl⟩
      go_wp2
      go_ret2
      exact ⟨pair_eq HZ.out.2.symm HZ.out.1.symm, rfl⟩
  · by_cases hz : a.size = 4
    · have hq : (a.size : Int) = 4 := by omega
      have HZ := Lib.hid (show shB 1 a = true ∧ shT 1 a = a from by
        have e : shB 1 a = true := by rw [HS.out.1, decide_eq_true (show a.size = sizeA 1 from hz)]; rfl
        exact ⟨e, by rw [HS.out.2, e]; rfl⟩)
      clear hz hi h3 HS
      go_enter Tryz.func119, Tryz.ntmps119
      go_wp2_with fail
      refine (P.out _).mono ?_
      rintro e w' ⟨rfl, rfl⟩
      go_wp2
      go_ret2
      exact ⟨pair_eq HZ.out.2.symm HZ.out.1.symm, rfl⟩
    · have hq : ((a.size : Int) == 4) = false := by simpa using (show ¬ (a.size : Int) = 4 by omega)
      have hq2 : ((a.size : Int) != 4) = true := by rw [bne, hq]; rfl
      have HZ := Lib.hid (show shB 1 a = false ∧ shT 1 a = ⟨#[]⟩ from by
        have e : shB 1 a = false := by rw [HS.out.1, decide_eq_false (show ¬ a.size = sizeA 1 from hz)]; rfl
        exact ⟨e, by rw [HS.out.2, e]; rfl⟩)
      clear hz hi h3 HS
      go_enter Tryz.func119, Tryz.ntmps119
      go_wp2_with fail
      refine (P.out _).mono ?_
      rintro e w' ⟨rfl, rfl⟩
      go_wp2
      go_ret2
      exact ⟨pair_eq HZ.out.2.symm HZ.out.1.symm, rfl⟩
  · by_cases hz : a.size = 16
    · have hq : (a.size : Int) = 16 := by omega
      have HZ := Lib.hid (show shB 2 a = true ∧ shT 2 a = a from by
        have e : shB 2 a = true := by rw [HS.out.1, decide_eq_true (show a.size = sizeA 2 from hz)]; rfl
        exact ⟨e, by rw [HS.out.2, e]; rfl⟩)
      clear hz hi h3 HS
      go_enter Tryz.func119, Tryz.ntmps119
      go_wp2_with fail
      refine (P.out _).mono ?_
      rintro e w' ⟨rfl, rfl⟩
      go_wp2
      go_ret2
      exact ⟨pair_eq HZ.out.2.symm HZ.out.1.symm, rfl⟩
    · have hq : ((a.size : Int) == 16) = false := by simpa using (show ¬ (a.size : Int) = 16 by omega)
      have hq2 : ((a.size : Int) != 16) = true := by rw [bne, hq]; rfl
      have HZ := Lib.hid (show shB 2 a = false ∧ shT 2 a = ⟨#[]⟩ from by
        have e : shB 2 a = false := by rw [HS.out.1, decide_eq_false (show ¬ a.size = sizeA 2 from hz)]; rfl
        exact ⟨e, by rw [HS.out.2, e]; rfl⟩)
      clear hz hi h3 HS
      go_enter Tryz.func119, Tryz.ntmps119
      go_wp2_with fail
      refine (P.out _).mono ?_
      rintro e w' ⟨rfl, rfl⟩
      go_wp2
      go_ret2
      exact ⟨pair_eq HZ.out.2.symm HZ.out.1.symm, rfl⟩
set_option maxHeartbeats 3200000 in
theorem nums_any (m : M) (w : World) : Calls Tryz.prog 97 #[.agg m.cells] w fun e w' => e = .returned (.bool (nums m)) ∧ Below w.heap.size w w' := by
  have HB := Lib.hid (balloc (Below.refl _ w) (.cells m.cells 38))
  have b0 := Bx.new w m
  have HK := Lib.hid (show nums m = (fitsB m.nonce 2 && (fitsB m.interval 2 && (fitsB m.seq 2 && fitsB m.cost 2))) from rfl)
  have P1 := Lib.hid (fun V => Oct.fits_any m.nonce 2 V)
  have P2 := Lib.hid (fun V => Oct.fits_any m.interval 2 V)
  have P3 := Lib.hid (fun V => Oct.fits_any m.seq 2 V)
  have P4 := Lib.hid (fun V => Oct.fits_any m.cost 2 V)
  generalize nums m = y at *
  generalize fitsB m.nonce 2 = x1 at *
  generalize fitsB m.interval 2 = x2 at *
  generalize fitsB m.seq 2 = x3 at *
  generalize fitsB m.cost 2 = x4 at *
  go_enter Tryz.func97, Tryz.ntmps97
  go_upto_region 1 with fail
  generalize w.alloc (.cells m.cells 38) = V at *
  have c17 := b0.cs.c17
  have c14 := b0.cs.c14
  have c12 := b0.cs.c12
  have c18 := b0.cs.c18
  clear b0
  cases x1
  · go_wp2_with fail
    refine (P1.out _).mono ?_
    rintro r w' ⟨rfl, rfl⟩
    go_wp2
    go_ret
    exact ⟨bool_eq HK.out.symm, HB.out⟩
  cases x2
  · go_wp2_with fail
    refine (P1.out _).mono ?_
    rintro r w' ⟨rfl, rfl⟩
    go_wp2_with fail
    refine (P2.out _).mono ?_
    rintro r w' ⟨rfl, rfl⟩
    go_wp2
    go_ret
    exact ⟨bool_eq HK.out.symm, HB.out⟩
  cases x3
  · go_wp2_with fail
    refine (P1.out _).mono ?_
    rintro r w' ⟨rfl, rfl⟩
    go_wp2_with fail
    refine (P2.out _).mono ?_
    rintro r w' ⟨rfl, rfl⟩
    go_wp2_with fail
    refine (P3.out _).mono ?_
    rintro r w' ⟨rfl, rfl⟩
    go_wp2
    go_ret
    exact ⟨bool_eq HK.out.symm, HB.out⟩
  go_wp2_with fail
  refine (P1.out _).mono ?_
  rintro r w' ⟨rfl, rfl⟩
  go_wp2_with fail
  refine (P2.out _).mono ?_
  rintro r w' ⟨rfl, rfl⟩
  go_wp2_with fail
  refine (P3.out _).mono ?_
  rintro r w' ⟨rfl, rfl⟩
  go_wp2_with fail
  refine (P4.out _).mono ?_
  rintro r w' ⟨rfl, rfl⟩
  go_wp2
  go_ret
  exact ⟨bool_eq HK.out.symm, HB.out⟩
set_option maxHeartbeats 3200000 in
theorem kind_any (m : M) (w : World) (ht : Tab w) : Calls Tryz.prog 98 #[.agg m.cells] w fun e w' => e = .returned (.bool (kindB m)) ∧ Below w.heap.size w w' := by
  have HB := Lib.hid (balloc (Below.refl _ w) (.cells m.cells 38))
  have b0 := Bx.new w m
  have P := Lib.hid (fun (h : Tab w) => shorten_any m.ae m.addr _ (h.below HB.out))
  have P := Lib.hid (P.out ht)
  clear ht
  by_cases h7 : m.kind = 7
  · have HK := Lib.hid (show kindB m = true by unfold kindB; rw [if_pos (.inl h7)])
    go_enter Tryz.func98, Tryz.ntmps98
    go_upto_region 1 with fail
    generalize w.alloc (.cells m.cells 38) = V at *
    have c0 := b0.cs.c0
    have c5 := b0.cs.c5
    have c15 := b0.cs.c15
    have c19 := b0.cs.c19
    clear b0
    rw [h7] at c0
    go_wp2
    go_ret
    exact ⟨bool_eq HK.out.symm, HB.out⟩
  by_cases h8 : m.kind = 8
  · have HK := Lib.hid (show kindB m = true by unfold kindB; rw [if_pos (.inr h8)])
    go_enter Tryz.func98, Tryz.ntmps98
    go_upto_region 1 with fail
    generalize w.alloc (.cells m.cells 38) = V at *
    have c0 := b0.cs.c0
    have c5 := b0.cs.c5
    have c15 := b0.cs.c15
    have c19 := b0.cs.c19
    clear b0
    rw [h8] at c0
    go_wp2
    go_ret
    exact ⟨bool_eq HK.out.symm, HB.out⟩
  by_cases h9 : m.kind = 9
  · by_cases g0 : 0 ≤ m.flags
    rotate_left
    · have HK := Lib.hid (show kindB m = false by unfold kindB; rw [if_neg (by omega), if_pos h9, decide_eq_false (fun h => g0 h.1)])
      go_enter Tryz.func98, Tryz.ntmps98
      go_upto_region 1 with fail
      generalize w.alloc (.cells m.cells 38) = V at *
      have c0 := b0.cs.c0
      have c5 := b0.cs.c5
      have c15 := b0.cs.c15
      have c19 := b0.cs.c19
      clear b0
      rw [h9] at c0
      clear h7 h8 h9
      go_wp2
      go_ret
      exact ⟨bool_eq HK.out.symm, HB.out⟩
    by_cases g1 : m.flags ≤ 1
    rotate_left
    · have HK := Lib.hid (show kindB m = false by unfold kindB; rw [if_neg (by omega), if_pos h9, decide_eq_false (fun h => g1 h.2)])
      go_enter Tryz.func98, Tryz.ntmps98
      go_upto_region 1 with fail
      generalize w.alloc (.cells m.cells 38) = V at *
      have c0 := b0.cs.c0
      have c5 := b0.cs.c5
      have c15 := b0.cs.c15
      have c19 := b0.cs.c19
      clear b0
      rw [h9] at c0
      clear h7 h8 h9
      go_wp2
      go_ret
      exact ⟨bool_eq HK.out.symm, HB.out⟩
    have HK := Lib.hid (show kindB m = true by unfold kindB; rw [if_neg (by omega), if_pos h9, decide_eq_true ⟨g0, g1⟩])
    go_enter Tryz.func98, Tryz.ntmps98
    go_upto_region 1 with fail
    generalize w.alloc (.cells m.cells 38) = V at *
    have c0 := b0.cs.c0
    have c5 := b0.cs.c5
    have c15 := b0.cs.c15
    have c19 := b0.cs.c19
    clear b0
    rw [h9] at c0
    clear h7 h8 h9
    go_wp2
    go_ret
    exact ⟨bool_eq HK.out.symm, HB.out⟩
  by_cases h10 : m.kind = 10
  · have HK := Lib.hid (show kindB m = shB m.ae m.addr by unfold kindB; rw [if_neg (by omega), if_neg h9, if_pos h10])
    go_enter Tryz.func98, Tryz.ntmps98
    go_upto_region 1 with fail
    generalize w.alloc (.cells m.cells 38) = V at *
    have c0 := b0.cs.c0
    have c5 := b0.cs.c5
    have c15 := b0.cs.c15
    have c19 := b0.cs.c19
    clear b0
    rw [h10] at c0
    clear h7 h8 h9 h10
    go_wp2_with fail
    refine P.out.mono ?_
    rintro r w' ⟨rfl, rfl⟩
    go_wp2
    go_ret
    exact ⟨bool_eq HK.out.symm, HB.out⟩
  have HK := Lib.hid (show kindB m = false by unfold kindB; rw [if_neg (by omega), if_neg h9, if_neg h10])
  have e7 : (m.kind == 7) = false := by simpa using h7
  have e8 : (m.kind == 8) = false := by simpa using h8
  have e9 : (m.kind == 9) = false := by simpa using h9
  have e10 : (m.kind == 10) = false := by simpa using h10
  go_enter Tryz.func98, Tryz.ntmps98
  go_upto_region 1 with fail
  generalize w.alloc (.cells m.cells 38) = V at *
  have c0 := b0.cs.c0
  have c5 := b0.cs.c5
  have c15 := b0.cs.c15
  have c19 := b0.cs.c19
  clear b0
  go_wp2
  go_ret
  exact ⟨bool_eq HK.out.symm, HB.out⟩
theorem mbare_any (m : M) (w : World) (hm : m.In w) : Calls Tryz.prog 75 #[.agg m.cells] w fun e w' => e = .returned (.bool (bare m)) ∧ Below w.heap.size w w' := Bare.bare_any m w hm
set_option maxHeartbeats 6400000 in
theorem right_any (m : M) (w : World) (hm : m.In w) (lb : ∀ x ∈ m.sl, x.1.size ≤ 1099511627776) (ht : Tab w) : Calls Tryz.prog 72 #[.agg m.cells] w fun e w' => e = .returned (.bool (okF m)) ∧ Below w.heap.size w w' := by
  have HF := Lib.hid (Fs.new w m hm)
  have HM := Lib.hid (ht.below (balloc (Below.refl _ w) (.cells m.cells 38)))
  have HK := Lib.hid (show okF m = (bare m && (okS m.sl && (nums m && kindB m))) from rfl)
  have P1 := Lib.hid (fun V (h : m.In V) => mbare_any m V h)
  have P2 := Lib.hid (fun V (h : m.In V) => S2.right_any m.sa m.sc m.sl V h.s h.sl lb)
  have P3 := Lib.hid (fun V => nums_any m V)
  have P4 := Lib.hid (fun V (h : Tab V) => kind_any m V h)
  clear lb hm ht
  generalize okF m = y at *
  generalize bare m = x1 at *
  generalize okS m.sl = x2 at *
  generalize nums m = x3 at *
  generalize kindB m = x4 at *
  go_enter Tryz.func72, Tryz.ntmps72
  go_upto_region 1 with fail
  generalize w.alloc (.cells m.cells 38) = V at *
  have c24 := HF.out.m.cs.c24
  cases x1
  · go_wp2_with (first | (refine st_yes (v := .agg (M.cells m)) (by rfl) rfl (run_loadM (x := .tmp 1) rfl rfl HF.out.m) ?_))
    refine (P1.out _ HF.out.i).mono ?_
    rintro r w' ⟨rfl, hb⟩
    have HM := Lib.hid (HM.out.below hb)
    have HF := Lib.hid (HF.out.call hb)
    clear hb c24
    have c24 := HF.out.m.cs.c24
    go_wp2_with (first | (refine st_yes (v := .agg (M.cells m)) (by rfl) rfl (run_loadM (x := .tmp 1) rfl rfl HF.out.m) ?_))
    go_ret
    exact ⟨bool_eq HK.out.symm, HF.out.bel⟩
  cases x2
  · go_wp2_with (first | (refine st_yes (v := .agg (M.cells m)) (by rfl) rfl (run_loadM (x := .tmp 1) rfl rfl HF.out.m) ?_))
    refine (P1.out _ HF.out.i).mono ?_
    rintro r w' ⟨rfl, hb⟩
    have HM := Lib.hid (HM.out.below hb)
    have HF := Lib.hid (HF.out.call hb)
    clear hb c24
    have c24 := HF.out.m.cs.c24
    go_wp2_with (first | (refine st_yes (v := .agg (M.cells m)) (by rfl) rfl (run_loadM (x := .tmp 1) rfl rfl HF.out.m) ?_))
    refine (P2.out _ HF.out.i).mono ?_
    rintro r w' ⟨rfl, hb⟩
    have HM := Lib.hid (HM.out.below hb)
    have HF := Lib.hid (HF.out.call hb)
    clear hb c24
    have c24 := HF.out.m.cs.c24
    go_wp2_with (first | (refine st_yes (v := .agg (M.cells m)) (by rfl) rfl (run_loadM (x := .tmp 1) rfl rfl HF.out.m) ?_))
    go_ret
    exact ⟨bool_eq HK.out.symm, HF.out.bel⟩
  cases x3
  · go_wp2_with (first | (refine st_yes (v := .agg (M.cells m)) (by rfl) rfl (run_loadM (x := .tmp 1) rfl rfl HF.out.m) ?_))
    refine (P1.out _ HF.out.i).mono ?_
    rintro r w' ⟨rfl, hb⟩
    have HM := Lib.hid (HM.out.below hb)
    have HF := Lib.hid (HF.out.call hb)
    clear hb c24
    have c24 := HF.out.m.cs.c24
    go_wp2_with (first | (refine st_yes (v := .agg (M.cells m)) (by rfl) rfl (run_loadM (x := .tmp 1) rfl rfl HF.out.m) ?_))
    refine (P2.out _ HF.out.i).mono ?_
    rintro r w' ⟨rfl, hb⟩
    have HM := Lib.hid (HM.out.below hb)
    have HF := Lib.hid (HF.out.call hb)
    clear hb c24
    have c24 := HF.out.m.cs.c24
    go_wp2_with (first | (refine st_yes (v := .agg (M.cells m)) (by rfl) rfl (run_loadM (x := .tmp 1) rfl rfl HF.out.m) ?_))
    refine (P3.out _).mono ?_
    rintro r w' ⟨rfl, hb⟩
    have HM := Lib.hid (HM.out.below hb)
    have HF := Lib.hid (HF.out.call hb)
    clear hb c24
    have c24 := HF.out.m.cs.c24
    go_wp2_with (first | (refine st_yes (v := .agg (M.cells m)) (by rfl) rfl (run_loadM (x := .tmp 1) rfl rfl HF.out.m) ?_))
    go_ret
    exact ⟨bool_eq HK.out.symm, HF.out.bel⟩
  go_wp2_with (first | (refine st_yes (v := .agg (M.cells m)) (by rfl) rfl (run_loadM (x := .tmp 1) rfl rfl HF.out.m) ?_))
  refine (P1.out _ HF.out.i).mono ?_
  rintro r w' ⟨rfl, hb⟩
  have HM := Lib.hid (HM.out.below hb)
  have HF := Lib.hid (HF.out.call hb)
  clear hb c24
  have c24 := HF.out.m.cs.c24
  go_wp2_with (first | (refine st_yes (v := .agg (M.cells m)) (by rfl) rfl (run_loadM (x := .tmp 1) rfl rfl HF.out.m) ?_))
  refine (P2.out _ HF.out.i).mono ?_
  rintro r w' ⟨rfl, hb⟩
  have HM := Lib.hid (HM.out.below hb)
  have HF := Lib.hid (HF.out.call hb)
  clear hb c24
  have c24 := HF.out.m.cs.c24
  go_wp2_with (first | (refine st_yes (v := .agg (M.cells m)) (by rfl) rfl (run_loadM (x := .tmp 1) rfl rfl HF.out.m) ?_))
  refine (P3.out _).mono ?_
  rintro r w' ⟨rfl, hb⟩
  have HM := Lib.hid (HM.out.below hb)
  have HF := Lib.hid (HF.out.call hb)
  clear hb c24
  have c24 := HF.out.m.cs.c24
  go_wp2_with (first | (refine st_yes (v := .agg (M.cells m)) (by rfl) rfl (run_loadM (x := .tmp 1) rfl rfl HF.out.m) ?_))
  refine (P4.out _ HM.out).mono ?_
  rintro r w' ⟨rfl, hb⟩
  have HM := Lib.hid (HM.out.below hb)
  have HF := Lib.hid (HF.out.call hb)
  clear hb c24
  have c24 := HF.out.m.cs.c24
  go_wp2
  go_ret
  exact ⟨bool_eq HK.out.symm, HF.out.bel⟩
end Go.Proofs.YtjhfpobjbijcpaaGreatDoor.G2
namespace Go.Proofs.YtjhfpobjbijcpaaGreatDoor.Ow
open Go.ChangeShapes Go.WideShapes Go.ChangeAt Go.RowKit
open Go.Proofs.YtjhfpobjbijcpaaGreatDoor.Ms
open Go.Proofs.YtjhfpobjbijcpaaGreatDoor.Box
open Go.Proofs.YtjhfpobjbijcpaaGreatDoor.Oct (cellsL info5 conv_row)
open Go.Proofs.YtjhfpobjbijcpaaGreatDoor.Bk (Bk)
set_option linter.unusedVariables false
set_option maxRecDepth 100000
set_option maxRecDepth 100000

theorem ob_ne {w : World} {B : Nat} {e T : TypeId} {size : Nat} {v : Value} {n : Nat} {xs : List Value} {b : Nat} {cs : Array Value} (hown : w.ownsRow B e size v n xs) (hb : Bk T w b cs) (hTe : T ≠ e) : v.ownBlock ≠ some b := by
  rcases hown.2 with ⟨rfl, _⟩ | ⟨g, cap, cur, rfl, _, hg, _⟩
  · simp [Value.ownBlock]
  · intro h
    simp only [Value.ownBlock, Option.some.injEq] at h
    subst h
    unfold Bk at hb
    rw [hg] at hb
    simp at hb
    exact hTe hb.2.symm
theorem own_set {w : World} {B b i : Nat} {e T : TypeId} {size : Nat} {v u : Value} {n : Nat} {xs : List Value} {cs : Array Value} (hown : w.ownsRow B e size v n xs) (hb : Bk T w b cs) (hTe : T ≠ e) : (w.setCell ⟨b, i, none⟩ u).ownsRow B e size v n xs :=
  hown.kept (row := some b) ⟨rfl, rfl, rfl, by simp [World.setCell], fun k _ hk => Below.heap_setCell _ _ _ _ (fun e => hk (by simp [e]))⟩ (Or.inr (ob_ne hown hb hTe))
theorem own_form {w : World} {B : Nat} {e : TypeId} {size : Nat} {v : Value} {n : Nat} {xs : List Value} (hown : w.ownsRow B e size v n xs) : ∃ a c, v = .slice a n c := by
  rcases hown.2 with ⟨hv, h0⟩ | ⟨g, cap, cur, hv, _⟩
  · exact ⟨none, 0, by rw [hv, h0]⟩
  · exact ⟨_, _, hv⟩
theorem cellsL_append (a b : List UInt8) : cellsL (a ++ b) = cellsL a ++ cellsL b := by simp [cellsL]
theorem conv_own {B : Nat} (w : World) (l : List UInt8) {ao : Option Addr} {cap : Nat} (h : w.ownsRow B 5 1 (.slice ao l.length cap) l.length (cellsL l)) :
    (convert 63 9 (.slice ao l.length cap)).run Tryz.prog w = .ok (.string ⟨l.toArray⟩) w := by
  rcases h.2 with ⟨hv, h0⟩ | ⟨g, c, cur, hv, _⟩
  · have : l = [] := List.length_eq_zero_iff.1 h0
    subst this
    show (convert 63 9 (.slice ao 0 cap)).run Tryz.prog w = _
    obtain ⟨rfl, _, rfl⟩ : ao = none ∧ True ∧ cap = 0 := by simpa using hv
    rw [run_convert_bytes_string w 63 9 5 none 0 0 Tryz.underlying63 Tryz.underlying5 Tryz.underlying9]; rfl
  · simp at hv
    obtain ⟨rfl, rfl⟩ := hv
    exact conv_row w g cap B l l.length rfl h
/-- The call's own row of the bytes bs. -/
def Own (B : Nat) (w : World) (v : Value) (bs : List UInt8) : Prop := w.ownsRow B 5 1 v bs.length (cellsL bs)
theorem Own.nil (B : Nat) (w : World) : Own B w (.slice none 0 0) [] := World.ownsRow_nil w B _ 1
theorem Own.below {B : Nat} {w w' : World} {v : Value} {bs : List UInt8} (h : Own B w v bs) (hb : Below w.heap.size w w') : Own B w' v bs := by
  refine ⟨h.1, ?_⟩
  rcases h.2 with h | ⟨g, cap, cur, a, b, c, d⟩
  · exact .inl h
  · exact .inr ⟨g, cap, cur, a, b, (hb.block g (Array.getElem?_eq_some_iff.1 c).1).trans c, d⟩
theorem Own.conv {B : Nat} {w : World} {v : Value} {bs : List UInt8} (h : Own B w v bs) : (convert 63 9 v).run Tryz.prog w = .ok (.string ⟨bs.toArray⟩) w := by
  obtain ⟨ao, cap, rfl⟩ := own_form h
  exact conv_own w bs h
/-- append(v, t...) -/
theorem app_str {ops : Array Oper} {rest : List Oper} {o : Oper} {a : Act} {w : World} {Q : Exit → Act → World → Prop} (hgd : o.guard = none) (s x : Operand)
    (ho : o.op = .call { callee := .builtin .append, args := #[s, x], argTypes := #[63, 9] }) (B : Nat) (v : Value) (bs : List UInt8) (t : ByteArray)
    (hs : a.eval s = v) (hown : Own B w v bs) (hx : a.eval x = .string t) (hl : bs.length + t.size ≤ 1000000) (hB : B ≤ w.heap.size)
    (h : ∀ v' w', Own B w' v' (bs ++ t.data.toList) → w.grownBy w' v.ownBlock → Below B w w' → wpList Tryz.prog ops Q rest (a.put o.dst v') w') : wpList Tryz.prog ops Q (o :: rest) a w := by
  obtain ⟨i0, hi, hz0, hz1, hz2⟩ := info_parts info5
  refine Lib.wpList_append_own_string w hgd s x 63 9 ho B 5 i0 Tryz.underlying63 Tryz.underlying9 hi hz0 hz1 hz2 v bs.length (cellsL bs) hs hown t hx (by unfold maxLen; omega) (by omega) hB ?_
  intro v' w' h2 h3 _
  refine h v' w' ?_ h3 ((Below.refl B w).grown h3 hB (fun k hk => (World.ownsRow.lt hown k hk).1))
  unfold Own
  rw [cellsL_append, List.length_append]
  exact h2

/-- Structs in other blocks stand still. -/
def Oth (b : Nat) (w w' : World) : Prop := ∀ (T : TypeId) k cs, T ≠ 5 → k ≠ b → Bk T w k cs → Bk T w' k cs
theorem Oth.refl (b : Nat) (w : World) : Oth b w w := fun _ _ _ _ _ h => h
theorem Oth.trans {b : Nat} {w w' w'' : World} (h : Oth b w w') (h' : Oth b w' w'') : Oth b w w'' := fun T k cs h1 h2 h3 => h' T k cs h1 h2 (h T k cs h1 h2 h3)
theorem Oth.below {b : Nat} {w w' : World} (h : Below w.heap.size w w') : Oth b w w' := fun _ _ _ _ _ h3 => h3.below h
theorem Oth.set {b i : Nat} {w : World} {v : Value} : Oth b w (w.setCell ⟨b, i, none⟩ v) := fun _ _ _ _ h2 h3 => h3.off (p := ⟨b, i, none⟩) h2 v
theorem Oth.grown {B b : Nat} {w w' : World} {v : Value} {bs : List UInt8} (hown : Own B w v bs) (hg : w.grownBy w' v.ownBlock) : Oth b w w' := fun _ _ _ h1 _ h3 => (hg.block _ h3.lt (fun e => ob_ne hown h3 h1 e.symm)).trans h3
theorem neM : (38 : TypeId) ≠ 5 := by decide
theorem Oth.bx {b g : Nat} {w w' : World} {m : M} (h : Oth b w w') (hn : g ≠ b) (hb : Bx w g m) : Bx w' g m := h 38 g m.cells neM hn hb
end Go.Proofs.YtjhfpobjbijcpaaGreatDoor.Ow
