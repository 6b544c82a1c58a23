/-
  Whether what is known may be, whether a message is an Update that may be, an encoding's family: the program's answers, and the document's Ok and Family. Conditions: the message's lists stand in the world, and aren't long; the variables have what they are laid with.
-/
import Derived.Test.YtjhfpobjbijcpaaGreatDoorB19
import Derived.Test.YtjhfpobjbijcpaaGreatDoorB20
import Derived.Test.YtjhfpobjbijcpaaGreatDoorB22
namespace Go.Proofs.YtjhfpobjbijcpaaGreatDoor.K2
open Go.ChangeShapes Go.WideShapes Go.ChangeAt Go.RowKit
open Go.Proofs.YtjhfpobjbijcpaaGreatDoor.Ms
open Go.Proofs.YtjhfpobjbijcpaaGreatDoor.Box
open Go.Proofs.YtjhfpobjbijcpaaGreatDoor.S1
open Go.Proofs.YtjhfpobjbijcpaaGreatDoor.Lk (link link_any)
open Go.Proofs.YtjhfpobjbijcpaaGreatDoor.J1
open Go.Proofs.YtjhfpobjbijcpaaGreatDoor.J2 (int_eq str_eq nil_eq nil_em size_eq family_any fam_0 fam_1 in_any)
open Go.Proofs.YtjhfpobjbijcpaaGreatDoor.An
open Go.Proofs.YtjhfpobjbijcpaaGreatDoor.Tc
open Go.Proofs.YtjhfpobjbijcpaaGreatDoor.K1
open Go.Proofs.YtjhfpobjbijcpaaGreatDoor.Kb
open Go.Proofs.YtjhfpobjbijcpaaGreatDoor.Oct (fitsB)
open Go.Proofs.YtjhfpobjbijcpaaGreatDoor.Bk (Bk alloc_size)
open Go.Proofs.YtjhfpobjbijcpaaGreatDoor.Hs
open Go.Proofs.YtjhfpobjbijcpaaGreatDoor.Or (st_yes)
set_option linter.unusedVariables false
set_option maxRecDepth 100000
set_option maxRecDepth 100000
theorem afam_any (s : ByteArray) (w : World) : Calls Tryz.prog 123 #[.string s] w fun e w' => e = .returned (.int .i64 (famA s)) ∧ w = w' := family_any s w
theorem fam_any (ae : Int) (w : World) : Calls Tryz.prog 124 #[.int .i64 ae] w fun e w' => e = .returned (.int .i64 (fam ae)) ∧ w = w' := by
  by_cases h1 : ae = 1
  · subst h1
    have HK := Lib.hid (show fam 1 = 0 from rfl)
    go_enter Tryz.func124, Tryz.ntmps124
    go_wp2
    go_ret
    exact ⟨int_eq HK.out.symm, rfl⟩
  by_cases h2 : ae = 2
  · subst h2
    have HK := Lib.hid (show fam 2 = 1 from rfl)
    go_enter Tryz.func124, Tryz.ntmps124
    go_wp2
    go_ret
    exact ⟨int_eq HK.out.symm, rfl⟩
  by_cases h3 : ae = 3
  · subst h3
    have HK := Lib.hid (show fam 3 = 1 from rfl)
    go_enter Tryz.func124, Tryz.ntmps124
    go_wp2
    go_ret
    exact ⟨int_eq HK.out.symm, rfl⟩
  have HK := Lib.hid (show fam ae = -1 by unfold fam; rw [if_neg h1, if_neg (fun h => h.elim h2 h3)])
  have e1 : (ae == 1) = false := by simpa using h1
  have e2 : (ae == 2) = false := by simpa using h2
  have e3 : (ae == 3) = false := by simpa using h3
  go_enter Tryz.func124, Tryz.ntmps124
  go_wp2
  go_ret
  exact ⟨int_eq HK.out.symm, rfl⟩
theorem rfam_any (ae : Int) (w : World) : Calls Tryz.prog 38 #[.int .i64 ae] w fun e w' => e = .returned (.int .i64 (fam ae)) ∧ w = w' := by
  by_cases h1 : ae = 1
  · subst h1
    have HK := Lib.hid (show fam 1 = 0 from rfl)
    go_enter Tryz.func38, Tryz.ntmps38
    go_wp2
    go_ret
    exact ⟨int_eq HK.out.symm, rfl⟩
  by_cases h2 : ae = 2
  · subst h2
    have HK := Lib.hid (show fam 2 = 1 from rfl)
    go_enter Tryz.func38, Tryz.ntmps38
    go_wp2
    go_ret
    exact ⟨int_eq HK.out.symm, rfl⟩
  by_cases h3 : ae = 3
  · subst h3
    have HK := Lib.hid (show fam 3 = 1 from rfl)
    go_enter Tryz.func38, Tryz.ntmps38
    go_wp2
    go_ret
    exact ⟨int_eq HK.out.symm, rfl⟩
  have HK := Lib.hid (show fam ae = -1 by unfold fam; rw [if_neg h1, if_neg (fun h => h.elim h2 h3)])
  have e1 : (ae == 1) = false := by simpa using h1
  have e2 : (ae == 2) = false := by simpa using h2
  have e3 : (ae == 3) = false := by simpa using h3
  go_enter Tryz.func38, Tryz.ntmps38
  go_wp2
  go_ret
  exact ⟨int_eq HK.out.symm, rfl⟩
def numB (m : M) : Bool := fitsB m.interval 2 && (fitsB m.seq 2 && fitsB m.metric 2)
theorem nums_any (m : M) (w : World) : Calls Tryz.prog 100 #[.agg m.cells] w fun e w' => e = .returned (.bool (numB m)) ∧ Below w.heap.size w w' := by
  have HB := Lib.hid (balloc (Below.refl _ w) (.cells m.cells 38))
  have b0 := Bx.new w m
  have HK := Lib.hid (show numB m = (fitsB m.interval 2 && (fitsB m.seq 2 && fitsB m.metric 2)) from rfl)
  have P1 := Lib.hid (fun V => Oct.fits_any m.interval 2 V)
  have P2 := Lib.hid (fun V => Oct.fits_any m.seq 2 V)
  have P3 := Lib.hid (fun V => Oct.fits_any m.metric 2 V)
  generalize numB m = y at *
  generalize fitsB m.interval 2 = x1 at *
  generalize fitsB m.seq 2 = x2 at *
  generalize fitsB m.metric 2 = x3 at *
  cases x1
  · go_enter Tryz.func100, Tryz.ntmps100
    go_upto_region 1 with fail
    generalize w.alloc (.cells m.cells 38) = V at *
    have c10 := b0.cs.c10
    have c12 := b0.cs.c12
    have c14 := b0.cs.c14
    clear b0
    go_wp2_with fail
    refine (P1.out _).mono ?_
    rintro r w' ⟨rfl, rfl⟩
    go_wp2
    go_ret
    exact ⟨bool_eq HK.out.symm, HB.out⟩
  cases x2
  · go_enter Tryz.func100, Tryz.ntmps100
    go_upto_region 1 with fail
    generalize w.alloc (.cells m.cells 38) = V at *
    have c10 := b0.cs.c10
    have c12 := b0.cs.c12
    have c14 := b0.cs.c14
    clear b0
    go_wp2_with fail
    refine (P1.out _).mono ?_
    rintro r w' ⟨rfl, rfl⟩
    go_wp2_with fail
    refine (P2.out _).mono ?_
    rintro r w' ⟨rfl, rfl⟩
    go_wp2
    go_ret
    exact ⟨bool_eq HK.out.symm, HB.out⟩
  go_enter Tryz.func100, Tryz.ntmps100
  go_upto_region 1 with fail
  generalize w.alloc (.cells m.cells 38) = V at *
  have c10 := b0.cs.c10
  have c12 := b0.cs.c12
  have c14 := b0.cs.c14
  clear b0
  go_wp2_with fail
  refine (P1.out _).mono ?_
  rintro r w' ⟨rfl, rfl⟩
  go_wp2_with fail
  refine (P2.out _).mono ?_
  rintro r w' ⟨rfl, rfl⟩
  go_wp2_with fail
  refine (P3.out _).mono ?_
  rintro r w' ⟨rfl, rfl⟩
  go_wp2
  go_ret
  exact ⟨bool_eq HK.out.symm, HB.out⟩
theorem S2' {w W : World} {m : M} {x : Ending} (hS : Bx W w.heap.size m ∧ Below w.heap.size w W) : ∀ e w', e = x ∧ W = w' → e = x ∧ (Bx w' w.heap.size m ∧ Below w.heap.size w w') := fun e w' h => ⟨h.1, h.2 ▸ hS⟩
theorem way_is (m : M) : wayB m = if m.metric = 65535 then decide (m.id.size = 0) && decide (m.next.size = 0) else !decide (m.ae = 0) && (decide (m.id.size = 8) && (decide (m.next.size = 0) || decide (famA m.next = fam m.ae))) := rfl
set_option maxHeartbeats 6400000 in
theorem way_any (m : M) (w : World) : Calls Tryz.prog 101 #[.agg m.cells] w fun e w' => e = .returned (.bool (wayB m)) ∧ Below w.heap.size w w' := by
  have HB := Lib.hid (balloc (Below.refl _ w) (.cells m.cells 38))
  have b0 := Bx.new w m
  have n1 := nil_eq m.id
  have n2 := nil_em m.id
  have n3 := nil_eq m.next
  have n4 := nil_em m.next
  have HK := Lib.hid (way_is m)
  by_cases hm : m.metric = 65535
  · rw [if_pos hm] at HK
    generalize wayB m = y at *
    generalize decide (m.id.size = 0) = z1 at *
    generalize decide (m.next.size = 0) = z2 at *
    cases z1
    · go_enter Tryz.func101, Tryz.ntmps101
      go_upto_region 1 with fail
      generalize w.alloc (.cells m.cells 38) = V at *
      have c9 := b0.cs.c9
      have c10 := b0.cs.c10
      have c11 := b0.cs.c11
      clear b0
      rw [hm] at c10
      clear hm
      go_wp2
      go_ret
      exact ⟨bool_eq HK.out.symm, HB.out⟩
    go_enter Tryz.func101, Tryz.ntmps101
    go_upto_region 1 with fail
    generalize w.alloc (.cells m.cells 38) = V at *
    have c9 := b0.cs.c9
    have c10 := b0.cs.c10
    have c11 := b0.cs.c11
    clear b0
    rw [hm] at c10
    clear hm
    go_wp2
    go_ret
    exact ⟨bool_eq HK.out.symm, HB.out⟩
  rw [if_neg hm] at HK
  have hm2 : (m.metric == 65535) = false := by simpa using hm
  generalize wayB m = y at *
  by_cases h0 : m.ae = 0
  · rw [decide_eq_true h0] at HK
    have h03 : (m.ae != 0) = false := by rw [h0]; rfl
    clear h0
    go_enter Tryz.func101, Tryz.ntmps101
    go_upto_region 1 with fail
    generalize w.alloc (.cells m.cells 38) = V at *
    have B0 := Lib.hid b0
    clear b0
    have c10 := B0.out.cs.c10
    go_upto_region 3 with fail
    clear c10 hm hm2
    refine wp_region_held_drew (S := fun W => Bx W w.heap.size m ∧ Below w.heap.size w W) (by kernel_rfl) ⟨B0.out, HB.out.drew⟩ (fun hS => ?_)
    clear HB B0
    generalize V.drew = X0 at *
    refine H.tk (i := 0) (v := ?v0a) ?h0a hS ?_
    case h0a => (intro w hw; go_simp; first | done | (with_reducible rfl))
    try simp only [Act.put, List.setIfInBounds_toArray, List.set_cons_zero, List.set_cons_succ]
    refine H.tk (i := 1) (v := .int .i64 m.ae) ?h1a hS ?_
    case h1a => exact (fun w hw => by have c := (hw.1).cs.c5; go_simp)
    try simp only [Act.put, List.setIfInBounds_toArray, List.set_cons_zero, List.set_cons_succ]
    refine H.tk (i := 2) (v := .bool false) ?h2a hS ?_
    case h2a => exact (fun w hw => by go_simp)
    try simp only [Act.put, List.setIfInBounds_toArray, List.set_cons_zero, List.set_cons_succ]
    refine H.tk (i := 3) (v := (.bool false)) (fun w _ => rfl) hS ?_
    try simp only [Act.put, List.setIfInBounds_toArray, List.set_cons_zero, List.set_cons_succ]
    refine H.sk (i := 4) (d := 18) hS ?_
    try simp only [Act.put, List.setIfInBounds_toArray, List.set_cons_zero, List.set_cons_succ]
    refine H.sk (i := 5) (d := 19) hS ?_
    try simp only [Act.put, List.setIfInBounds_toArray, List.set_cons_zero, List.set_cons_succ]
    refine H.sk (i := 6) (d := 20) hS ?_
    try simp only [Act.put, List.setIfInBounds_toArray, List.set_cons_zero, List.set_cons_succ]
    refine H.sk (i := 7) (d := 21) hS ?_
    try simp only [Act.put, List.setIfInBounds_toArray, List.set_cons_zero, List.set_cons_succ]
    refine H.tk (i := 8) (v := .bool false) ?h8a hS ?_
    case h8a => exact (fun w hw => by go_simp)
    try simp only [Act.put, List.setIfInBounds_toArray, List.set_cons_zero, List.set_cons_succ]
    refine H.tk (i := 9) (v := (.bool false)) (fun w _ => rfl) hS ?_
    try simp only [Act.put, List.setIfInBounds_toArray, List.set_cons_zero, List.set_cons_succ]
    refine H.sk (i := 10) (d := 24) hS ?_
    try simp only [Act.put, List.setIfInBounds_toArray, List.set_cons_zero, List.set_cons_succ]
    refine H.sk (i := 11) (d := 25) hS ?_
    try simp only [Act.put, List.setIfInBounds_toArray, List.set_cons_zero, List.set_cons_succ]
    refine H.sk (i := 12) (d := 26) hS ?_
    try simp only [Act.put, List.setIfInBounds_toArray, List.set_cons_zero, List.set_cons_succ]
    refine H.sk (i := 13) (d := 27) hS ?_
    try simp only [Act.put, List.setIfInBounds_toArray, List.set_cons_zero, List.set_cons_succ]
    refine H.sk (i := 14) (d := 28) hS ?_
    try simp only [Act.put, List.setIfInBounds_toArray, List.set_cons_zero, List.set_cons_succ]
    refine H.sk (i := 15) (d := 29) hS ?_
    try simp only [Act.put, List.setIfInBounds_toArray, List.set_cons_zero, List.set_cons_succ]
    refine H.sk (i := 16) (d := 30) hS ?_
    try simp only [Act.put, List.setIfInBounds_toArray, List.set_cons_zero, List.set_cons_succ]
    refine H.sk (i := 17) (d := 31) hS ?_
    try simp only [Act.put, List.setIfInBounds_toArray, List.set_cons_zero, List.set_cons_succ]
    refine H.sk (i := 18) (d := 32) hS ?_
    try simp only [Act.put, List.setIfInBounds_toArray, List.set_cons_zero, List.set_cons_succ]
    refine H.sk (i := 19) (d := 33) hS ?_
    try simp only [Act.put, List.setIfInBounds_toArray, List.set_cons_zero, List.set_cons_succ]
    refine H.sk (i := 20) (d := 34) hS ?_
    try simp only [Act.put, List.setIfInBounds_toArray, List.set_cons_zero, List.set_cons_succ]
    refine H.sk (i := 21) (d := 35) hS ?_
    try simp only [Act.put, List.setIfInBounds_toArray, List.set_cons_zero, List.set_cons_succ]
    refine H.tk (i := 22) (v := (Value.bool false)) (fun w _ => rfl) hS ?_
    try simp only [Act.put, List.setIfInBounds_toArray, List.set_cons_zero, List.set_cons_succ]
    refine H.tk (i := 23) (v := (Value.bool false)) (fun w _ => rfl) hS ?_
    try simp only [Act.put, List.setIfInBounds_toArray, List.set_cons_zero, List.set_cons_succ]
    refine wpAnyH_done (by kernel_rfl) ?_ _
    go_wp2
    go_ret
    exact ⟨bool_eq HK.out.symm, hS.2⟩
  have h02 : (m.ae == 0) = false := by simpa using h0
  have h03 : (m.ae != 0) = true := by rw [bne, h02]; rfl
  rw [decide_eq_false h0] at HK
  have h8 : ((m.id.size : Int) == 8) = decide (m.id.size = 8) := size_eq m.id 8
  clear h0
  generalize decide (m.id.size = 8) = z3 at *
  cases z3
  · go_enter Tryz.func101, Tryz.ntmps101
    go_upto_region 1 with fail
    generalize w.alloc (.cells m.cells 38) = V at *
    have B0 := Lib.hid b0
    clear b0
    have c10 := B0.out.cs.c10
    go_upto_region 3 with fail
    clear c10 hm hm2
    refine wp_region_held_drew (S := fun W => Bx W w.heap.size m ∧ Below w.heap.size w W) (by kernel_rfl) ⟨B0.out, HB.out.drew⟩ (fun hS => ?_)
    clear HB B0
    generalize V.drew = X0 at *
    refine H.tk (i := 0) (v := ?v0b) ?h0b hS ?_
    case h0b => (intro w hw; go_simp; first | done | (with_reducible rfl))
    try simp only [Act.put, List.setIfInBounds_toArray, List.set_cons_zero, List.set_cons_succ]
    refine H.tk (i := 1) (v := .int .i64 m.ae) ?h1b hS ?_
    case h1b => exact (fun w hw => by have c := (hw.1).cs.c5; go_simp)
    try simp only [Act.put, List.setIfInBounds_toArray, List.set_cons_zero, List.set_cons_succ]
    refine H.tk (i := 2) (v := .bool true) ?h2b hS ?_
    case h2b => exact (fun w hw => by go_simp)
    try simp only [Act.put, List.setIfInBounds_toArray, List.set_cons_zero, List.set_cons_succ]
    refine H.tk (i := 3) (v := (.bool true)) (fun w _ => rfl) hS ?_
    try simp only [Act.put, List.setIfInBounds_toArray, List.set_cons_zero, List.set_cons_succ]
    refine H.tk (i := 4) (v := ?v4b) ?h4b hS ?_
    case h4b => (intro w hw; go_simp; first | done | (with_reducible rfl))
    try simp only [Act.put, List.setIfInBounds_toArray, List.set_cons_zero, List.set_cons_succ]
    refine H.tk (i := 5) (v := .string m.id) ?h5b hS ?_
    case h5b => exact (fun w hw => by have c := (hw.1).cs.c11; go_simp)
    try simp only [Act.put, List.setIfInBounds_toArray, List.set_cons_zero, List.set_cons_succ]
    refine H.tk (i := 6) (v := .int .i64 (m.id.size : Int)) ?h6b hS ?_
    case h6b => exact (fun w hw => by go_simp)
    try simp only [Act.put, List.setIfInBounds_toArray, List.set_cons_zero, List.set_cons_succ]
    refine H.tk (i := 7) (v := .bool false) ?h7b hS ?_
    case h7b => exact (fun w hw => by go_simp)
    try simp only [Act.put, List.setIfInBounds_toArray, List.set_cons_zero, List.set_cons_succ]
    refine H.tk (i := 8) (v := .bool false) ?h8b hS ?_
    case h8b => exact (fun w hw => by go_simp)
    try simp only [Act.put, List.setIfInBounds_toArray, List.set_cons_zero, List.set_cons_succ]
    refine H.tk (i := 9) (v := (.bool false)) (fun w _ => rfl) hS ?_
    try simp only [Act.put, List.setIfInBounds_toArray, List.set_cons_zero, List.set_cons_succ]
    refine H.sk (i := 10) (d := 24) hS ?_
    try simp only [Act.put, List.setIfInBounds_toArray, List.set_cons_zero, List.set_cons_succ]
    refine H.sk (i := 11) (d := 25) hS ?_
    try simp only [Act.put, List.setIfInBounds_toArray, List.set_cons_zero, List.set_cons_succ]
    refine H.sk (i := 12) (d := 26) hS ?_
    try simp only [Act.put, List.setIfInBounds_toArray, List.set_cons_zero, List.set_cons_succ]
    refine H.sk (i := 13) (d := 27) hS ?_
    try simp only [Act.put, List.setIfInBounds_toArray, List.set_cons_zero, List.set_cons_succ]
    refine H.sk (i := 14) (d := 28) hS ?_
    try simp only [Act.put, List.setIfInBounds_toArray, List.set_cons_zero, List.set_cons_succ]
    refine H.sk (i := 15) (d := 29) hS ?_
    try simp only [Act.put, List.setIfInBounds_toArray, List.set_cons_zero, List.set_cons_succ]
    refine H.sk (i := 16) (d := 30) hS ?_
    try simp only [Act.put, List.setIfInBounds_toArray, List.set_cons_zero, List.set_cons_succ]
    refine H.sk (i := 17) (d := 31) hS ?_
    try simp only [Act.put, List.setIfInBounds_toArray, List.set_cons_zero, List.set_cons_succ]
    refine H.sk (i := 18) (d := 32) hS ?_
    try simp only [Act.put, List.setIfInBounds_toArray, List.set_cons_zero, List.set_cons_succ]
    refine H.sk (i := 19) (d := 33) hS ?_
    try simp only [Act.put, List.setIfInBounds_toArray, List.set_cons_zero, List.set_cons_succ]
    refine H.sk (i := 20) (d := 34) hS ?_
    try simp only [Act.put, List.setIfInBounds_toArray, List.set_cons_zero, List.set_cons_succ]
    refine H.sk (i := 21) (d := 35) hS ?_
    try simp only [Act.put, List.setIfInBounds_toArray, List.set_cons_zero, List.set_cons_succ]
    refine H.tk (i := 22) (v := (Value.bool false)) (fun w _ => rfl) hS ?_
    try simp only [Act.put, List.setIfInBounds_toArray, List.set_cons_zero, List.set_cons_succ]
    refine H.tk (i := 23) (v := (Value.bool false)) (fun w _ => rfl) hS ?_
    try simp only [Act.put, List.setIfInBounds_toArray, List.set_cons_zero, List.set_cons_succ]
    refine wpAnyH_done (by kernel_rfl) ?_ _
    go_wp2
    go_ret
    exact ⟨bool_eq HK.out.symm, hS.2⟩
  generalize decide (m.next.size = 0) = z2 at *
  cases z2
  rotate_left
  · go_enter Tryz.func101, Tryz.ntmps101
    go_upto_region 1 with fail
    generalize w.alloc (.cells m.cells 38) = V at *
    have B0 := Lib.hid b0
    clear b0
    have c10 := B0.out.cs.c10
    go_upto_region 3 with fail
    clear c10 hm hm2
    refine wp_region_held_drew (S := fun W => Bx W w.heap.size m ∧ Below w.heap.size w W) (by kernel_rfl) ⟨B0.out, HB.out.drew⟩ (fun hS => ?_)
    clear HB B0
    generalize V.drew = X0 at *
    refine H.tk (i := 0) (v := ?v0c) ?h0c hS ?_
    case h0c => (intro w hw; go_simp; first | done | (with_reducible rfl))
    try simp only [Act.put, List.setIfInBounds_toArray, List.set_cons_zero, List.set_cons_succ]
    refine H.tk (i := 1) (v := .int .i64 m.ae) ?h1c hS ?_
    case h1c => exact (fun w hw => by have c := (hw.1).cs.c5; go_simp)
    try simp only [Act.put, List.setIfInBounds_toArray, List.set_cons_zero, List.set_cons_succ]
    refine H.tk (i := 2) (v := .bool true) ?h2c hS ?_
    case h2c => exact (fun w hw => by go_simp)
    try simp only [Act.put, List.setIfInBounds_toArray, List.set_cons_zero, List.set_cons_succ]
    refine H.tk (i := 3) (v := (.bool true)) (fun w _ => rfl) hS ?_
    try simp only [Act.put, List.setIfInBounds_toArray, List.set_cons_zero, List.set_cons_succ]
    refine H.tk (i := 4) (v := ?v4c) ?h4c hS ?_
    case h4c => (intro w hw; go_simp; first | done | (with_reducible rfl))
    try simp only [Act.put, List.setIfInBounds_toArray, List.set_cons_zero, List.set_cons_succ]
    refine H.tk (i := 5) (v := .string m.id) ?h5c hS ?_
    case h5c => exact (fun w hw => by have c := (hw.1).cs.c11; go_simp)
    try simp only [Act.put, List.setIfInBounds_toArray, List.set_cons_zero, List.set_cons_succ]
    refine H.tk (i := 6) (v := .int .i64 (m.id.size : Int)) ?h6c hS ?_
    case h6c => exact (fun w hw => by go_simp)
    try simp only [Act.put, List.setIfInBounds_toArray, List.set_cons_zero, List.set_cons_succ]
    refine H.tk (i := 7) (v := .bool true) ?h7c hS ?_
    case h7c => exact (fun w hw => by go_simp)
    try simp only [Act.put, List.setIfInBounds_toArray, List.set_cons_zero, List.set_cons_succ]
    refine H.tk (i := 8) (v := .bool true) ?h8c hS ?_
    case h8c => exact (fun w hw => by go_simp)
    try simp only [Act.put, List.setIfInBounds_toArray, List.set_cons_zero, List.set_cons_succ]
    refine H.tk (i := 9) (v := (.bool true)) (fun w _ => rfl) hS ?_
    try simp only [Act.put, List.setIfInBounds_toArray, List.set_cons_zero, List.set_cons_succ]
    refine H.tk (i := 10) (v := ?v10c) ?h10c hS ?_
    case h10c => (intro w hw; go_simp; first | done | (with_reducible rfl))
    try simp only [Act.put, List.setIfInBounds_toArray, List.set_cons_zero, List.set_cons_succ]
    refine H.tk (i := 11) (v := .string m.next) ?h11c hS ?_
    case h11c => exact (fun w hw => by have c := (hw.1).cs.c9; go_simp)
    try simp only [Act.put, List.setIfInBounds_toArray, List.set_cons_zero, List.set_cons_succ]
    refine H.tk (i := 12) (v := .bool true) ?h12c hS ?_
    case h12c => exact (fun w hw => by go_simp)
    try simp only [Act.put, List.setIfInBounds_toArray, List.set_cons_zero, List.set_cons_succ]
    refine H.tk (i := 13) (v := (.bool true)) (fun w _ => rfl) hS ?_
    try simp only [Act.put, List.setIfInBounds_toArray, List.set_cons_zero, List.set_cons_succ]
    refine H.sk (i := 14) (d := 28) hS ?_
    try simp only [Act.put, List.setIfInBounds_toArray, List.set_cons_zero, List.set_cons_succ]
    refine H.sk (i := 15) (d := 29) hS ?_
    try simp only [Act.put, List.setIfInBounds_toArray, List.set_cons_zero, List.set_cons_succ]
    refine H.sk (i := 16) (d := 30) hS ?_
    try simp only [Act.put, List.setIfInBounds_toArray, List.set_cons_zero, List.set_cons_succ]
    refine H.sk (i := 17) (d := 31) hS ?_
    try simp only [Act.put, List.setIfInBounds_toArray, List.set_cons_zero, List.set_cons_succ]
    refine H.sk (i := 18) (d := 32) hS ?_
    try simp only [Act.put, List.setIfInBounds_toArray, List.set_cons_zero, List.set_cons_succ]
    refine H.sk (i := 19) (d := 33) hS ?_
    try simp only [Act.put, List.setIfInBounds_toArray, List.set_cons_zero, List.set_cons_succ]
    refine H.sk (i := 20) (d := 34) hS ?_
    try simp only [Act.put, List.setIfInBounds_toArray, List.set_cons_zero, List.set_cons_succ]
    refine H.tk (i := 21) (v := (Value.bool true)) (fun w _ => rfl) hS ?_
    try simp only [Act.put, List.setIfInBounds_toArray, List.set_cons_zero, List.set_cons_succ]
    refine H.tk (i := 22) (v := (Value.bool true)) (fun w _ => rfl) hS ?_
    try simp only [Act.put, List.setIfInBounds_toArray, List.set_cons_zero, List.set_cons_succ]
    refine H.tk (i := 23) (v := (Value.bool true)) (fun w _ => rfl) hS ?_
    try simp only [Act.put, List.setIfInBounds_toArray, List.set_cons_zero, List.set_cons_succ]
    refine wpAnyH_done (by kernel_rfl) ?_ _
    go_wp2
    go_ret
    exact ⟨bool_eq HK.out.symm, hS.2⟩
  have PA := Lib.hid (fun V => afam_any m.next V)
  have PF := Lib.hid (fun V => fam_any m.ae V)
  have hq : (famA m.next == fam m.ae) = decide (famA m.next = fam m.ae) := rfl
  generalize famA m.next = f at *
  generalize fam m.ae = g at *
  generalize decide (f = g) = z4 at *
  go_enter Tryz.func101, Tryz.ntmps101
  go_upto_region 1 with fail
  generalize w.alloc (.cells m.cells 38) = V at *
  have B0 := Lib.hid b0
  clear b0
  have c10 := B0.out.cs.c10
  go_upto_region 3 with fail
  clear c10 hm hm2
  refine wp_region_held_drew (S := fun W => Bx W w.heap.size m ∧ Below w.heap.size w W) (by kernel_rfl) ⟨B0.out, HB.out.drew⟩ (fun hS => ?_)
  clear HB B0
  generalize V.drew = X0 at *
  refine H.tk (i := 0) (v := ?v0d) ?h0d hS ?_
  case h0d => (intro w hw; go_simp; first | done | (with_reducible rfl))
  try simp only [Act.put, List.setIfInBounds_toArray, List.set_cons_zero, List.set_cons_succ]
  refine H.tk (i := 1) (v := .int .i64 m.ae) ?h1d hS ?_
  case h1d => exact (fun w hw => by have c := (hw.1).cs.c5; go_simp)
  try simp only [Act.put, List.setIfInBounds_toArray, List.set_cons_zero, List.set_cons_succ]
  refine H.tk (i := 2) (v := .bool true) ?h2d hS ?_
  case h2d => exact (fun w hw => by go_simp)
  try simp only [Act.put, List.setIfInBounds_toArray, List.set_cons_zero, List.set_cons_succ]
  refine H.tk (i := 3) (v := (.bool true)) (fun w _ => rfl) hS ?_
  try simp only [Act.put, List.setIfInBounds_toArray, List.set_cons_zero, List.set_cons_succ]
  refine H.tk (i := 4) (v := ?v4d) ?h4d hS ?_
  case h4d => (intro w hw; go_simp; first | done | (with_reducible rfl))
  try simp only [Act.put, List.setIfInBounds_toArray, List.set_cons_zero, List.set_cons_succ]
  refine H.tk (i := 5) (v := .string m.id) ?h5d hS ?_
  case h5d => exact (fun w hw => by have c := (hw.1).cs.c11; go_simp)
  try simp only [Act.put, List.setIfInBounds_toArray, List.set_cons_zero, List.set_cons_succ]
  refine H.tk (i := 6) (v := .int .i64 (m.id.size : Int)) ?h6d hS ?_
  case h6d => exact (fun w hw => by go_simp)
  try simp only [Act.put, List.setIfInBounds_toArray, List.set_cons_zero, List.set_cons_succ]
  refine H.tk (i := 7) (v := .bool true) ?h7d hS ?_
  case h7d => exact (fun w hw => by go_simp)
  try simp only [Act.put, List.setIfInBounds_toArray, List.set_cons_zero, List.set_cons_succ]
  refine H.tk (i := 8) (v := .bool true) ?h8d hS ?_
  case h8d => exact (fun w hw => by go_simp)
  try simp only [Act.put, List.setIfInBounds_toArray, List.set_cons_zero, List.set_cons_succ]
  refine H.tk (i := 9) (v := (.bool true)) (fun w _ => rfl) hS ?_
  try simp only [Act.put, List.setIfInBounds_toArray, List.set_cons_zero, List.set_cons_succ]
  refine H.tk (i := 10) (v := ?v10d) ?h10d hS ?_
  case h10d => (intro w hw; go_simp; first | done | (with_reducible rfl))
  try simp only [Act.put, List.setIfInBounds_toArray, List.set_cons_zero, List.set_cons_succ]
  refine H.tk (i := 11) (v := .string m.next) ?h11d hS ?_
  case h11d => exact (fun w hw => by have c := (hw.1).cs.c9; go_simp)
  try simp only [Act.put, List.setIfInBounds_toArray, List.set_cons_zero, List.set_cons_succ]
  refine H.tk (i := 12) (v := .bool false) ?h12d hS ?_
  case h12d => exact (fun w hw => by go_simp)
  try simp only [Act.put, List.setIfInBounds_toArray, List.set_cons_zero, List.set_cons_succ]
  refine H.tk (i := 13) (v := (.bool false)) (fun w _ => rfl) hS ?_
  try simp only [Act.put, List.setIfInBounds_toArray, List.set_cons_zero, List.set_cons_succ]
  refine H.tk (i := 14) (v := ?v14d) ?h14d hS ?_
  case h14d => (intro w hw; go_simp; first | done | (with_reducible rfl))
  try simp only [Act.put, List.setIfInBounds_toArray, List.set_cons_zero, List.set_cons_succ]
  refine H.tk (i := 15) (v := .string m.next) ?h15d hS ?_
  case h15d => exact (fun w hw => by have c := (hw.1).cs.c9; go_simp)
  try simp only [Act.put, List.setIfInBounds_toArray, List.set_cons_zero, List.set_cons_succ]
  refine H.tk (i := 17) (v := ?v17d) ?h17d hS ?_
  case h17d => (intro w hw; go_simp; first | done | (with_reducible rfl))
  try simp only [Act.put, List.setIfInBounds_toArray, List.set_cons_zero, List.set_cons_succ]
  refine H.tk (i := 18) (v := .int .i64 m.ae) ?h18d hS ?_
  case h18d => exact (fun w hw => by have c := (hw.1).cs.c5; go_simp)
  try simp only [Act.put, List.setIfInBounds_toArray, List.set_cons_zero, List.set_cons_succ]
  refine wpAnyH_ready (rs := [16]) (by kernel_rfl) (by simp) ?_
  refine AllReadyH.cons rfl (fun K hK => ?_) AllReadyH.nil
  go_simp
  refine ((PA.out _).mono (S2' hS)).mono ?_
  rintro e w16 ⟨rfl, hS16⟩
  refine hK.out _ _ hS16 (fun _ => ?_)
  clear hK K hS
  have hS := hS16
  clear hS16
  try simp only [Act.put, List.setIfInBounds_toArray, List.set_cons_zero, List.set_cons_succ]
  refine wpAnyH_ready (rs := [19]) (by kernel_rfl) (by simp) ?_
  refine AllReadyH.cons rfl (fun K hK => ?_) AllReadyH.nil
  go_simp
  refine ((PF.out _).mono (S2' hS)).mono ?_
  rintro e w19 ⟨rfl, hS19⟩
  refine hK.out _ _ hS19 (fun _ => ?_)
  clear hK K hS
  have hS := hS19
  clear hS19
  try simp only [Act.put, List.setIfInBounds_toArray, List.set_cons_zero, List.set_cons_succ]
  refine H.tk (i := 20) (v := .bool z4) ?h20d hS ?_
  case h20d => exact (fun w hw => by go_simp)
  try simp only [Act.put, List.setIfInBounds_toArray, List.set_cons_zero, List.set_cons_succ]
  refine H.tk (i := 21) (v := (.bool z4)) (fun w _ => rfl) hS ?_
  try simp only [Act.put, List.setIfInBounds_toArray, List.set_cons_zero, List.set_cons_succ]
  refine H.tk (i := 22) (v := (.bool z4)) (fun w _ => rfl) hS ?_
  try simp only [Act.put, List.setIfInBounds_toArray, List.set_cons_zero, List.set_cons_succ]
  refine H.tk (i := 23) (v := (.bool z4)) (fun w _ => rfl) hS ?_
  try simp only [Act.put, List.setIfInBounds_toArray, List.set_cons_zero, List.set_cons_succ]
  refine wpAnyH_done (by kernel_rfl) ?_ _
  go_wp2
  go_ret
  exact ⟨bool_eq HK.out.symm, hS.2⟩
theorem mbare_any (m : M) (w : World) (hm : m.In w) : Calls Tryz.prog 75 #[.agg m.cells] w fun e w' => e = .returned (.bool (bare m)) ∧ Below w.heap.size w w' := Bare.bare_any m w hm
set_option maxHeartbeats 12800000 in
theorem right_any (m : M) (w : World) (hm : m.In w) (lb : ∀ x ∈ m.sl, x.1.size ≤ 1099511627776) (hp : m.pfx.size ≤ maxLen) (ht : Tab w) : Calls Tryz.prog 73 #[.agg m.cells] w fun e w' => e = .returned (.bool (okU m)) ∧ Below w.heap.size w w' := by
  have HF := Lib.hid (Fs.new w m hm)
  have HM := Lib.hid (ht.below (balloc (Below.refl _ w) (.cells m.cells 38)))
  have HK := Lib.hid (show okU m = (decide (m.kind = 11) && (bare m && (okS m.sl && (inB m.ae m.pfx m.plen && (numB m && wayB m))))) from by
    unfold okU numB
    simp only [Bool.and_assoc])
  have P1 := Lib.hid (fun V (h : m.In V) => mbare_any m V h)
  have P2 := Lib.hid (fun V (h : Tab V) => in_any m.ae m.pfx m.plen V hp h)
  have P3 := Lib.hid (fun V (h : m.In V) => S2.right_any m.sa m.sc m.sl V h.s h.sl lb)
  have P4 := Lib.hid (fun V => nums_any m V)
  have P5 := Lib.hid (fun V => way_any m V)
  clear lb hm ht hp
  generalize okU m = y at *
  generalize bare m = x1 at *
  generalize inB m.ae m.pfx m.plen = x2 at *
  generalize okS m.sl = x3 at *
  generalize numB m = x4 at *
  generalize wayB m = x5 at *
  by_cases h11 : m.kind = 11
  rotate_left
  · have e11 : (m.kind == 11) = false := by simpa using h11
    rw [decide_eq_false h11] at HK
    go_enter Tryz.func73, Tryz.ntmps73
    go_upto_region 1 with fail
    generalize w.alloc (.cells m.cells 38) = V at *
    have c0 := HF.out.m.cs.c0
    have c5 := HF.out.m.cs.c5
    have c6 := HF.out.m.cs.c6
    have c7 := HF.out.m.cs.c7
    have c24 := HF.out.m.cs.c24
    clear h11
    go_wp2_with (first | (refine st_yes (v := .agg (M.cells m)) (by rfl) rfl (run_loadM (x := .tmp 1) rfl rfl HF.out.m) ?_))
    go_ret
    exact ⟨bool_eq HK.out.symm, HF.out.bel⟩
  rw [decide_eq_true h11] at HK
  cases x1
  · go_enter Tryz.func73, Tryz.ntmps73
    go_upto_region 1 with fail
    generalize w.alloc (.cells m.cells 38) = V at *
    have c0 := HF.out.m.cs.c0
    have c5 := HF.out.m.cs.c5
    have c6 := HF.out.m.cs.c6
    have c7 := HF.out.m.cs.c7
    have c24 := HF.out.m.cs.c24
    rw [h11] at c0
    go_wp2_with (first | (refine st_yes (v := .agg (M.cells m)) (by rfl) rfl (run_loadM (x := .tmp 1) rfl rfl HF.out.m) ?_))
    refine (P1.out _ HF.out.i).mono ?_
    rintro r w' ⟨rfl, hb⟩
    have HM := Lib.hid (HM.out.below hb)
    have HF := Lib.hid (HF.out.call hb)
    clear hb c0 c5 c6 c7 c24
    have c0 := HF.out.m.cs.c0
    have c5 := HF.out.m.cs.c5
    have c6 := HF.out.m.cs.c6
    have c7 := HF.out.m.cs.c7
    have c24 := HF.out.m.cs.c24
    rw [h11] at c0
    go_wp2_with (first | (refine st_yes (v := .agg (M.cells m)) (by rfl) rfl (run_loadM (x := .tmp 1) rfl rfl HF.out.m) ?_))
    go_ret
    exact ⟨bool_eq HK.out.symm, HF.out.bel⟩
  cases x3
  · go_enter Tryz.func73, Tryz.ntmps73
    go_upto_region 1 with fail
    generalize w.alloc (.cells m.cells 38) = V at *
    have c0 := HF.out.m.cs.c0
    have c5 := HF.out.m.cs.c5
    have c6 := HF.out.m.cs.c6
    have c7 := HF.out.m.cs.c7
    have c24 := HF.out.m.cs.c24
    rw [h11] at c0
    go_wp2_with (first | (refine st_yes (v := .agg (M.cells m)) (by rfl) rfl (run_loadM (x := .tmp 1) rfl rfl HF.out.m) ?_))
    refine (P1.out _ HF.out.i).mono ?_
    rintro r w' ⟨rfl, hb⟩
    have HM := Lib.hid (HM.out.below hb)
    have HF := Lib.hid (HF.out.call hb)
    clear hb c0 c5 c6 c7 c24
    have c0 := HF.out.m.cs.c0
    have c5 := HF.out.m.cs.c5
    have c6 := HF.out.m.cs.c6
    have c7 := HF.out.m.cs.c7
    have c24 := HF.out.m.cs.c24
    rw [h11] at c0
    go_wp2_with (first | (refine st_yes (v := .agg (M.cells m)) (by rfl) rfl (run_loadM (x := .tmp 1) rfl rfl HF.out.m) ?_))
    refine (P3.out _ HF.out.i).mono ?_
    rintro r w' ⟨rfl, hb⟩
    have HM := Lib.hid (HM.out.below hb)
    have HF := Lib.hid (HF.out.call hb)
    clear hb c0 c5 c6 c7 c24
    have c0 := HF.out.m.cs.c0
    have c5 := HF.out.m.cs.c5
    have c6 := HF.out.m.cs.c6
    have c7 := HF.out.m.cs.c7
    have c24 := HF.out.m.cs.c24
    rw [h11] at c0
    go_wp2_with (first | (refine st_yes (v := .agg (M.cells m)) (by rfl) rfl (run_loadM (x := .tmp 1) rfl rfl HF.out.m) ?_))
    go_ret
    exact ⟨bool_eq HK.out.symm, HF.out.bel⟩
  cases x2
  · go_enter Tryz.func73, Tryz.ntmps73
    go_upto_region 1 with fail
    generalize w.alloc (.cells m.cells 38) = V at *
    have c0 := HF.out.m.cs.c0
    have c5 := HF.out.m.cs.c5
    have c6 := HF.out.m.cs.c6
    have c7 := HF.out.m.cs.c7
    have c24 := HF.out.m.cs.c24
    rw [h11] at c0
    go_wp2_with (first | (refine st_yes (v := .agg (M.cells m)) (by rfl) rfl (run_loadM (x := .tmp 1) rfl rfl HF.out.m) ?_))
    refine (P1.out _ HF.out.i).mono ?_
    rintro r w' ⟨rfl, hb⟩
    have HM := Lib.hid (HM.out.below hb)
    have HF := Lib.hid (HF.out.call hb)
    clear hb c0 c5 c6 c7 c24
    have c0 := HF.out.m.cs.c0
    have c5 := HF.out.m.cs.c5
    have c6 := HF.out.m.cs.c6
    have c7 := HF.out.m.cs.c7
    have c24 := HF.out.m.cs.c24
    rw [h11] at c0
    go_wp2_with (first | (refine st_yes (v := .agg (M.cells m)) (by rfl) rfl (run_loadM (x := .tmp 1) rfl rfl HF.out.m) ?_))
    refine (P3.out _ HF.out.i).mono ?_
    rintro r w' ⟨rfl, hb⟩
    have HM := Lib.hid (HM.out.below hb)
    have HF := Lib.hid (HF.out.call hb)
    clear hb c0 c5 c6 c7 c24
    have c0 := HF.out.m.cs.c0
    have c5 := HF.out.m.cs.c5
    have c6 := HF.out.m.cs.c6
    have c7 := HF.out.m.cs.c7
    have c24 := HF.out.m.cs.c24
    rw [h11] at c0
    go_wp2_with (first | (refine st_yes (v := .agg (M.cells m)) (by rfl) rfl (run_loadM (x := .tmp 1) rfl rfl HF.out.m) ?_))
    refine (P2.out _ HM.out).mono ?_
    rintro r w' ⟨rfl, hb⟩
    have HM := Lib.hid (HM.out.below hb)
    have HF := Lib.hid (HF.out.call hb)
    clear hb c0 c5 c6 c7 c24
    have c0 := HF.out.m.cs.c0
    have c5 := HF.out.m.cs.c5
    have c6 := HF.out.m.cs.c6
    have c7 := HF.out.m.cs.c7
    have c24 := HF.out.m.cs.c24
    rw [h11] at c0
    go_wp2_with (first | (refine st_yes (v := .agg (M.cells m)) (by rfl) rfl (run_loadM (x := .tmp 1) rfl rfl HF.out.m) ?_))
    go_ret
    exact ⟨bool_eq HK.out.symm, HF.out.bel⟩
  cases x4
  · go_enter Tryz.func73, Tryz.ntmps73
    go_upto_region 1 with fail
    generalize w.alloc (.cells m.cells 38) = V at *
    have c0 := HF.out.m.cs.c0
    have c5 := HF.out.m.cs.c5
    have c6 := HF.out.m.cs.c6
    have c7 := HF.out.m.cs.c7
    have c24 := HF.out.m.cs.c24
    rw [h11] at c0
    go_wp2_with (first | (refine st_yes (v := .agg (M.cells m)) (by rfl) rfl (run_loadM (x := .tmp 1) rfl rfl HF.out.m) ?_))
    refine (P1.out _ HF.out.i).mono ?_
    rintro r w' ⟨rfl, hb⟩
    have HM := Lib.hid (HM.out.below hb)
    have HF := Lib.hid (HF.out.call hb)
    clear hb c0 c5 c6 c7 c24
    have c0 := HF.out.m.cs.c0
    have c5 := HF.out.m.cs.c5
    have c6 := HF.out.m.cs.c6
    have c7 := HF.out.m.cs.c7
    have c24 := HF.out.m.cs.c24
    rw [h11] at c0
    go_wp2_with (first | (refine st_yes (v := .agg (M.cells m)) (by rfl) rfl (run_loadM (x := .tmp 1) rfl rfl HF.out.m) ?_))
    refine (P3.out _ HF.out.i).mono ?_
    rintro r w' ⟨rfl, hb⟩
    have HM := Lib.hid (HM.out.below hb)
    have HF := Lib.hid (HF.out.call hb)
    clear hb c0 c5 c6 c7 c24
    have c0 := HF.out.m.cs.c0
    have c5 := HF.out.m.cs.c5
    have c6 := HF.out.m.cs.c6
    have c7 := HF.out.m.cs.c7
    have c24 := HF.out.m.cs.c24
    rw [h11] at c0
    go_wp2_with (first | (refine st_yes (v := .agg (M.cells m)) (by rfl) rfl (run_loadM (x := .tmp 1) rfl rfl HF.out.m) ?_))
    refine (P2.out _ HM.out).mono ?_
    rintro r w' ⟨rfl, hb⟩
    have HM := Lib.hid (HM.out.below hb)
    have HF := Lib.hid (HF.out.call hb)
    clear hb c0 c5 c6 c7 c24
    have c0 := HF.out.m.cs.c0
    have c5 := HF.out.m.cs.c5
    have c6 := HF.out.m.cs.c6
    have c7 := HF.out.m.cs.c7
    have c24 := HF.out.m.cs.c24
    rw [h11] at c0
    go_wp2_with (first | (refine st_yes (v := .agg (M.cells m)) (by rfl) rfl (run_loadM (x := .tmp 1) rfl rfl HF.out.m) ?_))
    refine (P4.out _).mono ?_
    rintro r w' ⟨rfl, hb⟩
    have HM := Lib.hid (HM.out.below hb)
    have HF := Lib.hid (HF.out.call hb)
    clear hb c0 c5 c6 c7 c24
    have c0 := HF.out.m.cs.c0
    have c5 := HF.out.m.cs.c5
    have c6 := HF.out.m.cs.c6
    have c7 := HF.out.m.cs.c7
    have c24 := HF.out.m.cs.c24
    rw [h11] at c0
    go_wp2_with (first | (refine st_yes (v := .agg (M.cells m)) (by rfl) rfl (run_loadM (x := .tmp 1) rfl rfl HF.out.m) ?_))
    go_ret
    exact ⟨bool_eq HK.out.symm, HF.out.bel⟩
  go_enter Tryz.func73, Tryz.ntmps73
  go_upto_region 1 with fail
  generalize w.alloc (.cells m.cells 38) = V at *
  have c0 := HF.out.m.cs.c0
  have c5 := HF.out.m.cs.c5
  have c6 := HF.out.m.cs.c6
  have c7 := HF.out.m.cs.c7
  have c24 := HF.out.m.cs.c24
  rw [h11] at c0
  go_wp2_with (first | (refine st_yes (v := .agg (M.cells m)) (by rfl) rfl (run_loadM (x := .tmp 1) rfl rfl HF.out.m) ?_))
  refine (P1.out _ HF.out.i).mono ?_
  rintro r w' ⟨rfl, hb⟩
  have HM := Lib.hid (HM.out.below hb)
  have HF := Lib.hid (HF.out.call hb)
  clear hb c0 c5 c6 c7 c24
  have c0 := HF.out.m.cs.c0
  have c5 := HF.out.m.cs.c5
  have c6 := HF.out.m.cs.c6
  have c7 := HF.out.m.cs.c7
  have c24 := HF.out.m.cs.c24
  rw [h11] at c0
  go_wp2_with (first | (refine st_yes (v := .agg (M.cells m)) (by rfl) rfl (run_loadM (x := .tmp 1) rfl rfl HF.out.m) ?_))
  refine (P3.out _ HF.out.i).mono ?_
  rintro r w' ⟨rfl, hb⟩
  have HM := Lib.hid (HM.out.below hb)
  have HF := Lib.hid (HF.out.call hb)
  clear hb c0 c5 c6 c7 c24
  have c0 := HF.out.m.cs.c0
  have c5 := HF.out.m.cs.c5
  have c6 := HF.out.m.cs.c6
  have c7 := HF.out.m.cs.c7
  have c24 := HF.out.m.cs.c24
  rw [h11] at c0
  go_wp2_with (first | (refine st_yes (v := .agg (M.cells m)) (by rfl) rfl (run_loadM (x := .tmp 1) rfl rfl HF.out.m) ?_))
  refine (P2.out _ HM.out).mono ?_
  rintro r w' ⟨rfl, hb⟩
  have HM := Lib.hid (HM.out.below hb)
  have HF := Lib.hid (HF.out.call hb)
  clear hb c0 c5 c6 c7 c24
  have c0 := HF.out.m.cs.c0
  have c5 := HF.out.m.cs.c5
  have c6 := HF.out.m.cs.c6
  have c7 := HF.out.m.cs.c7
  have c24 := HF.out.m.cs.c24
  rw [h11] at c0
  go_wp2_with (first | (refine st_yes (v := .agg (M.cells m)) (by rfl) rfl (run_loadM (x := .tmp 1) rfl rfl HF.out.m) ?_))
  refine (P4.out _).mono ?_
  rintro r w' ⟨rfl, hb⟩
  have HM := Lib.hid (HM.out.below hb)
  have HF := Lib.hid (HF.out.call hb)
  clear hb c0 c5 c6 c7 c24
  have c0 := HF.out.m.cs.c0
  have c5 := HF.out.m.cs.c5
  have c6 := HF.out.m.cs.c6
  have c7 := HF.out.m.cs.c7
  have c24 := HF.out.m.cs.c24
  rw [h11] at c0
  go_wp2_with (first | (refine st_yes (v := .agg (M.cells m)) (by rfl) rfl (run_loadM (x := .tmp 1) rfl rfl HF.out.m) ?_))
  refine (P5.out _).mono ?_
  rintro r w' ⟨rfl, hb⟩
  have HM := Lib.hid (HM.out.below hb)
  have HF := Lib.hid (HF.out.call hb)
  clear hb c0 c5 c6 c7 c24
  have c0 := HF.out.m.cs.c0
  have c5 := HF.out.m.cs.c5
  have c6 := HF.out.m.cs.c6
  have c7 := HF.out.m.cs.c7
  have c24 := HF.out.m.cs.c24
  rw [h11] at c0
  go_wp2_with (first | (refine st_yes (v := .agg (M.cells m)) (by rfl) rfl (run_loadM (x := .tmp 1) rfl rfl HF.out.m) ?_))
  go_ret
  exact ⟨bool_eq HK.out.symm, HF.out.bel⟩
end Go.Proofs.YtjhfpobjbijcpaaGreatDoor.K2
