/-
  The statement RouteTakes, of any bytes. Condition: the listed variable has what the program's text lays it with (the tied card).
-/
import Derived.Test.YtkhdllhlhpkekaaDoorJ9
import Derived.Test.YtkhdllhlhpkekaaDoorCards
import Derived.Test.YtkhdllhlhpkekaaDoorTie
import Derived.Lay
import Derived.SevenTiedAt
import Derived.Stop.Joined
namespace Go.Proofs.YtkhdllhlhpkekaaDoor.routeTakes
open Go.ChangeShapes Go.WideShapes Go.ChangeAt Go.RowKit
open Go.ChangeMaps (open_string shut_string)
open Go.Proofs.YtkhdllhlhpkekaaDoor.Ms
open Go.Proofs.YtkhdllhlhpkekaaDoor.Box
open Go.Proofs.YtkhdllhlhpkekaaDoor.S1
open Go.Proofs.YtkhdllhlhpkekaaDoor.J1
open Go.Proofs.YtkhdllhlhpkekaaDoor.An
open Go.Proofs.YtkhdllhlhpkekaaDoor.Tc
open Go.Proofs.YtkhdllhlhpkekaaDoor.J9
open Go.Proofs.YtkhdllhlhpkekaaDoor.Hs
open Go.Proofs.YtkhdllhlhpkekaaDoor.Open
set_option linter.unusedVariables false

open Go.Proofs.YtkhdllhlhpkekaaDoor.Tl (cellsT)
open Go.Proofs.YtkhdllhlhpkekaaDoor.Or (st_yes)
open Go.Proofs.YtkhdllhlhpkekaaDoor.Hx (ex_built)
open Go.Proofs.YtkhdllhlhpkekaaDoor.Bk (Bk)
open Go.Proofs.YtkhdllhlhpkekaaDoor.J4 (shU wpList_loadU wpList_storeU)
open Go.Proofs.YtkhdllhlhpkekaaDoor.J6 (AnsU)
open Go.Proofs.YtkhdllhlhpkekaaDoor.F1 (bt bt_nn bt_lt num_two)
open Go.Proofs.YtkhdllhlhpkekaaDoor.F2 (idx sl_m)
open Go.Proofs.YtkhdllhlhpkekaaDoor.Hx (conv8)
open Go.Proofs.YtkhdllhlhpkekaaDoor.Pre (leastN)
/-- What stays: the Update's block, the variable. -/
def UT (w : World) (g : Nat) (x : Up) (W : World) : Prop := Bk 37 W g x.cells ∧ Tab W ∧ Below w.heap.size w W
theorem UT.call {w W w' : World} {g : Nat} {x : Up} (h : UT w g x W) (hb : Below W.heap.size W w') : UT w g x w' := ⟨h.1.below hb, h.2.1.below hb, h.2.2.trans (hb.mono h.2.2.size)⟩
theorem UT.drew {w W : World} {g : Nat} {x : Up} (h : UT w g x W) : UT w g x W.drew := ⟨h.1, h.2.1.drew, h.2.2.drew⟩
theorem heldU {P : Program} {f : Nat} {args : Array Value} {v : Ending} {w W : World} {g : Nat} {x : Up} (h : Calls P f args W fun e w' => e = v ∧ Below W.heap.size W w') (hS : UT w g x W) : Calls P f args W fun e w' => e = v ∧ UT w g x w' :=
  h.mono fun _ _ ⟨he, hb⟩ => ⟨he, hS.call hb⟩
theorem outK_zero {d : ByteArray} {e : Int} (h : outK d = (Up.zero, false, e)) : True := trivial

set_option maxHeartbeats 25600000 in
set_option maxRecDepth 100000 in
theorem walk (d : ByteArray) (w : World) (hm : d.size ≤ maxLen) (ht : Tab w) :
    Calls Tryd.prog 6 #[.string d] w fun r w' => r = .returned (.bool true) ∧ Below w.heap.size w w' := by
  unfold maxLen at hm
  by_cases hz : d.size ≤ 255
  rotate_left
  · have hz2 : 255 < (d.size : Int) := by omega
    go_enter Tryd.func6, Tryd.ntmps6
    have HT := Lib.hid ht
    have HB := Lib.hid (Below.refl w.heap.size w)
    go_wp2_with fail
    refine (awake_any _ HT.out).mono ?_
    rintro r w2 ⟨rfl, hb⟩
    have HB := Lib.hid (bcall HB.out hb)
    clear hb
    go_wp2
    go_ret
    exact ⟨rfl, HB.out⟩
  have hz2 : ¬ 255 < (d.size : Int) := by omega
  have P1 := Lib.hid (fun V (q : Tab V) => J6.take_own 0 d V (by omega) q)
  have HT := Lib.hid ht
  have HB := Lib.hid (Below.refl w.heap.size w)
  clear ht hm
  rcases outK_cases d with ⟨er, hq⟩ | ⟨y, gy, hq⟩
  · rw [hq] at P1
    clear hq
    obtain ⟨q, hqq⟩ : ∃ q : Up, q = Up.zero := ⟨_, rfl⟩
    rw [← hqq] at P1
    have HQQ := Lib.hid hqq
    clear hqq
    go_enter Tryd.func6, Tryd.ntmps6
    go_wp2_with fail
    refine (P1.out _ HT.out).mono ?_
    intro r w1 hr
    obtain ⟨sa1, sc1, rfl, hl, hb⟩ := hr
    have HT := Lib.hid (HT.out.below hb)
    have HB := Lib.hid (bcall HB.out hb)
    go_upto_region 4 with (refine wpList_storeU (b := w1.heap.size) (m := Up.zero) (m' := { q with sa := sa1, sc := sc1 }) rfl _ _ rfl rfl rfl (Bk.Bk.new 37 w1 Up.zero.cells) ?_)
    change Code.wp _ _ _ _ ((w1.alloc (.cells Up.zero.cells 37)).setRow w1.heap.size (Up.cells { q with sa := sa1, sc := sc1 }))
    rw [World.setRow_alloc_new]
    have bel := balloc (Below.refl w1.heap.size w1) (.cells (Up.cells { q with sa := sa1, sc := sc1 }) 37)
    have I1 := Lib.hid (hl.row.below bel)
    have HT := Lib.hid (HT.out.below bel)
    have HB := Lib.hid (bcall HB.out bel)
    have X1 := Lib.hid (Bk.Bk.new 37 w1 (Up.cells { q with sa := sa1, sc := sc1 }))
    clear hl hb bel
    generalize w1.alloc (.cells (Up.cells { q with sa := sa1, sc := sc1 }) 37) = V1 at *
    generalize w1.heap.size = g1 at *
    go_wp2_with fail
    refine (awake_any _ HT.out).mono ?_
    rintro r w3 ⟨rfl, hb⟩
    have X1 := Lib.hid (X1.out.below hb)
    have I1 := Lib.hid (I1.out.below hb)
    have HB := Lib.hid (bcall HB.out hb)
    clear hb
    have hqq := HQQ.out
    subst hqq
    have PS := Lib.hid (rsameU Up.zero sa1 none sc1 0 w3 I1.out (SRow.nil _ _) (Nat.zero_le _))
    go_wp2_with (first | (refine st_yes (v := .agg (Up.cells { Up.zero with sa := sa1, sc := sc1 })) (by rfl) rfl (Bk.run_loadK shU (x := .tmp 3) rfl rfl X1.out rfl) ?_) | (refine st_yes (v := .agg (Up.cells { Up.zero with sa := none, sc := 0 })) (by rfl) rfl (ex_built rfl (by kernel_rfl)) ?_))
    refine PS.out.mono ?_
    rintro r w4 ⟨rfl, hb⟩
    have HB := Lib.hid (bcall HB.out hb)
    clear hb
    go_wp2
    go_ret
    exact ⟨rfl, HB.out⟩
  have hl := len_range gy.len
  have hc := count_le gy.len
  have hsz := gy.size
  obtain ⟨n, hn⟩ : ∃ n, countN (bt d 0) (bt d 2) - (bt d 3).toNat = n := ⟨_, rfl⟩
  have hr : restN 10 (bt d 0) (bt d 2) (bt d 3) = 10 + n := by unfold restN; rw [hn]
  rw [hr] at hsz
  have hb := gy.bytes
  rw [hr] at hb
  have hom := gy.omle
  have b3 := bt_nn d 3
  have b8 := bt_nn d 8
  have b8' := bt_lt d 8
  have b9 := bt_nn d 9
  have b9' := bt_lt d 9
  have i0 := idx d 0 0 rfl (by omega)
  have i8 := idx d 8 8 rfl (by omega)
  have i9 := idx d 9 9 rfl (by omega)
  have v0 := conv8 (bt d 0) (bt_nn d 0) (bt_lt d 0)
  have v8 := conv8 (bt d 8) b8 b8'
  have v9 := conv8 (bt d 9) b9 b9'
  have sla := sl_m d 10 (10 + (n : Int)) 10 (10 + n) rfl (by omega) (by omega) hsz
  have hbz : (d.extract 10 (10 + n)).size = n := by rw [ext_size _ _ _ hsz]; omega
  have hM : num2 d 8 = 256 * bt d 8 + bt d 9 := num_two d 8 (by omega)
  have hX : outK d = ({ ({ Up.zero with ae := bt d 0, flags := bt d 1, plen := bt d 2, om := bt d 3, iv := num2 d 4, seq := num2 d 6, metric := 256 * bt d 8 + bt d 9, hav := if y.known then 1 else 0, bytes := d.extract 10 (10 + n) } : Up) with sl := y.sl }, true, 0) := by
    rw [hq, ← hM, hb]; rfl
  have hd10 : 10 + n ≤ d.size := hsz
  obtain ⟨_, yl, kn⟩ := y
  simp only [] at hX
  have hne : ∀ z : ByteArray, (z.toList == z.toList) = true := bytes_same
  have hle : (leastN (bt d 2) : Int) = (bt d 2 + 7) / 8 := by unfold leastN; omega
  have e1 := bytes_same (d.extract 10 (10 + n))
  have h2a : (((d.extract 10 (10 + n)).size : Int) == (n : Int)) = true := by rw [hbz]; simp
  have h3a : (10 : Int) + (n : Int) ≤ (d.size : Int) := by omega
  have hn16 : n ≤ 16 := by omega
  clear gy hq hb hr hM hsz hbz hz
  have HCn := Lib.hid hn
  generalize d.extract 10 (10 + n) = yb at *
  generalize bt d 0 = y0 at *
  generalize bt d 1 = y1 at *
  generalize bt d 2 = y2 at *
  generalize bt d 3 = y3 at *
  generalize num2 d 4 = y4 at *
  generalize num2 d 6 = y6 at *
  generalize bt d 8 = y8 at *
  generalize bt d 9 = y9 at *
  obtain ⟨l0, l1, l2, l3⟩ := hl
  have hM1 : IntKind.i64.wrap (256 * y8) = 256 * y8 := IntWalk.i64_in _ ⟨by omega, by omega⟩
  have hM2 : IntKind.i64.wrap (256 * y8 + y9) = 256 * y8 + y9 := IntWalk.i64_in _ ⟨by omega, by omega⟩
  have hM3 : IntKind.i64.wrap (10 + (n : Int)) = 10 + (n : Int) := IntWalk.i64_in _ ⟨by omega, by omega⟩
  have e2 := int_same y0
  have e3 := int_same (256 * y8 + y9)
  by_cases h3 : y0 = 3
  · subst h3
    have hb8 : baseN 3 = 8 := rfl
    have hw6 : wrap64 ((y2 + 7) / 8 - y3) = (n : Int) + 8 := by rw [IntWalk.wrap64_in _ ⟨by omega, by omega⟩]; omega
    have hw7 : wrap64 ((n : Int) + 8 - 8) = (n : Int) := by rw [IntWalk.wrap64_in _ ⟨by omega, by omega⟩]; omega
    clear hc hn HCn hle hom hb8
    cases kn
    · rw [show outK d = (({ Up.zero with ae := 3, flags := y1, plen := y2, om := y3, iv := y4, seq := y6, metric := 256 * y8 + y9, hav := 0, bytes := yb, sl := yl } : Up), true, 0) from hX] at P1
      clear hX
      obtain ⟨q, hqq⟩ : ∃ q : Up, q = { Up.zero with ae := 3, flags := y1, plen := y2, om := y3, iv := y4, seq := y6, metric := 256 * y8 + y9, hav := 0, bytes := yb, sl := yl } := ⟨_, rfl⟩
      rw [← hqq] at P1
      have HQQ := Lib.hid hqq
      clear hqq
      go_enter Tryd.func6, Tryd.ntmps6
      go_wp2_with fail
      refine (P1.out _ HT.out).mono ?_
      intro r w1 hr
      obtain ⟨sa1, sc1, rfl, hl, hb⟩ := hr
      have HT := Lib.hid (HT.out.below hb)
      have HB := Lib.hid (bcall HB.out hb)
      go_upto_region 4 with (refine wpList_storeU (b := w1.heap.size) (m := Up.zero) (m' := { q with sa := sa1, sc := sc1 }) rfl _ _ rfl rfl rfl (Bk.Bk.new 37 w1 Up.zero.cells) ?_)
      change Code.wp _ _ _ _ ((w1.alloc (.cells Up.zero.cells 37)).setRow w1.heap.size (Up.cells { q with sa := sa1, sc := sc1 }))
      rw [World.setRow_alloc_new]
      have bel := balloc (Below.refl w1.heap.size w1) (.cells (Up.cells { q with sa := sa1, sc := sc1 }) 37)
      have I1 := Lib.hid (hl.row.below bel)
      have HT := Lib.hid (HT.out.below bel)
      have HB := Lib.hid (bcall HB.out bel)
      have X1 := Lib.hid (Bk.Bk.new 37 w1 (Up.cells { q with sa := sa1, sc := sc1 }))
      clear hl hb bel
      generalize w1.alloc (.cells (Up.cells { q with sa := sa1, sc := sc1 }) 37) = V1 at *
      generalize w1.heap.size = g1 at *
      have hqq := HQQ.out
      subst hqq
      have X1 := Lib.hid (show Bk 37 V1 g1 (Up.cells { Up.zero with ae := 3, flags := y1, plen := y2, om := y3, iv := y4, seq := y6, metric := 256 * y8 + y9, hav := 0, bytes := yb, sa := sa1, sl := yl, sc := sc1 }) from X1.out)
      have c2 := X1.out.cell 2 (.int .i64 y2) rfl
      have c3 := X1.out.cell 3 (.int .i64 y3) rfl
      have c0 := X1.out.cell 0 (.int .i64 3) rfl
      go_upto_region 9 with fail
      clear c0 c2 c3
      refine wp_region_held_drew (S := UT w g1 { Up.zero with ae := 3, flags := y1, plen := y2, om := y3, iv := y4, seq := y6, metric := 256 * y8 + y9, hav := 0, bytes := yb, sa := sa1, sl := yl, sc := sc1 }) (by kernel_rfl) (UT.drew ⟨X1.out, HT.out, HB.out⟩) (fun hS => ?_)
      generalize V1.drew = X0 at *
      refine wpAnyH_ready (rs := [0]) (by kernel_rfl) (by simp) ?_
      refine AllReadyH.cons rfl (fun K hK => ?_) AllReadyH.nil
      go_simp
      refine (heldU (awake_any _ hS.2.1) hS).mono ?_
      rintro e w0 ⟨rfl, hS0⟩
      refine hK.out _ _ hS0 (fun _ => ?_)
      clear hK K hS
      have hS := hS0
      clear hS0
      refine H.tk (i := 1) (v := (.bool true)) (fun w _ => rfl) hS ?_
      try simp only [Act.put, List.setIfInBounds_toArray, List.set_cons_zero, List.set_cons_succ]
      refine H.tk (i := 2) (v := ?v2a) ?h2a hS ?_
      case h2a => (intro w hw; go_simp; first | done | (with_reducible rfl))
      try simp only [Act.put, List.setIfInBounds_toArray, List.set_cons_zero, List.set_cons_succ]
      refine H.tk (i := 3) (v := .bool true) ?h3a hS ?_
      case h3a => exact (fun w hw => by go_simp)
      try simp only [Act.put, List.setIfInBounds_toArray, List.set_cons_zero, List.set_cons_succ]
      refine H.tk (i := 4) (v := (.bool true)) (fun w _ => rfl) hS ?_
      try simp only [Act.put, List.setIfInBounds_toArray, List.set_cons_zero, List.set_cons_succ]
      refine H.tk (i := 5) (v := (.bool true)) (fun w _ => rfl) hS ?_
      try simp only [Act.put, List.setIfInBounds_toArray, List.set_cons_zero, List.set_cons_succ]
      refine H.tk (i := 6) (v := ?v6a) ?h6a hS ?_
      case h6a => (intro w hw; go_simp; first | done | (with_reducible rfl))
      try simp only [Act.put, List.setIfInBounds_toArray, List.set_cons_zero, List.set_cons_succ]
      refine H.tk (i := 7) (v := .string yb) ?h7a hS ?_
      case h7a => exact (fun w hw => by have c := hw.1.cell 8 (.string yb) rfl; go_simp)
      try simp only [Act.put, List.setIfInBounds_toArray, List.set_cons_zero, List.set_cons_succ]
      refine H.tk (i := 8) (v := .int .i64 (yb.size : Int)) ?h8a hS ?_
      case h8a => exact (fun w hw => by go_simp)
      try simp only [Act.put, List.setIfInBounds_toArray, List.set_cons_zero, List.set_cons_succ]
      refine H.tk (i := 9) (v := .int .i64 (n : Int)) ?h9a hS ?_
      case h9a => exact (fun w hw => by go_simp)
      try simp only [Act.put, List.setIfInBounds_toArray, List.set_cons_zero, List.set_cons_succ]
      refine H.tk (i := 10) (v := .bool true) ?h10a hS ?_
      case h10a => exact (fun w hw => by go_simp)
      try simp only [Act.put, List.setIfInBounds_toArray, List.set_cons_zero, List.set_cons_succ]
      refine H.tk (i := 11) (v := (.bool true)) (fun w _ => rfl) hS ?_
      try simp only [Act.put, List.setIfInBounds_toArray, List.set_cons_zero, List.set_cons_succ]
      refine H.tk (i := 12) (v := (.bool true)) (fun w _ => rfl) hS ?_
      try simp only [Act.put, List.setIfInBounds_toArray, List.set_cons_zero, List.set_cons_succ]
      refine H.tk (i := 13) (v := ?v13a) ?h13a hS ?_
      case h13a => (intro w hw; go_simp; first | done | (with_reducible rfl))
      try simp only [Act.put, List.setIfInBounds_toArray, List.set_cons_zero, List.set_cons_succ]
      refine H.tk (i := 14) (v := .int .i64 (d.size : Int)) ?h14a hS ?_
      case h14a => exact (fun w hw => by go_simp)
      try simp only [Act.put, List.setIfInBounds_toArray, List.set_cons_zero, List.set_cons_succ]
      refine H.tk (i := 15) (v := .int .i64 (n : Int)) ?h15a hS ?_
      case h15a => exact (fun w hw => by go_simp)
      try simp only [Act.put, List.setIfInBounds_toArray, List.set_cons_zero, List.set_cons_succ]
      refine H.tk (i := 16) (v := .int .i64 (10 + (n : Int))) ?h16a hS ?_
      case h16a => exact (fun w hw => by go_simp)
      try simp only [Act.put, List.setIfInBounds_toArray, List.set_cons_zero, List.set_cons_succ]
      refine H.tk (i := 17) (v := .bool true) ?h17a hS ?_
      case h17a => exact (fun w hw => by go_simp)
      try simp only [Act.put, List.setIfInBounds_toArray, List.set_cons_zero, List.set_cons_succ]
      refine H.tk (i := 18) (v := (.bool true)) (fun w _ => rfl) hS ?_
      try simp only [Act.put, List.setIfInBounds_toArray, List.set_cons_zero, List.set_cons_succ]
      refine H.tk (i := 19) (v := (.bool true)) (fun w _ => rfl) hS ?_
      try simp only [Act.put, List.setIfInBounds_toArray, List.set_cons_zero, List.set_cons_succ]
      refine H.tk (i := 20) (v := ?v20a) ?h20a hS ?_
      case h20a => (intro w hw; go_simp; first | done | (with_reducible rfl))
      try simp only [Act.put, List.setIfInBounds_toArray, List.set_cons_zero, List.set_cons_succ]
      refine H.tk (i := 21) (v := .int .i64 (n : Int)) ?h21a hS ?_
      case h21a => exact (fun w hw => by go_simp)
      try simp only [Act.put, List.setIfInBounds_toArray, List.set_cons_zero, List.set_cons_succ]
      refine H.tk (i := 22) (v := .int .i64 (10 + (n : Int))) ?h22a hS ?_
      case h22a => exact (fun w hw => by go_simp)
      try simp only [Act.put, List.setIfInBounds_toArray, List.set_cons_zero, List.set_cons_succ]
      refine H.tk (i := 23) (v := .string yb) ?h23a hS ?_
      case h23a => exact (fun w hw => by go_simp)
      try simp only [Act.put, List.setIfInBounds_toArray, List.set_cons_zero, List.set_cons_succ]
      refine H.tk (i := 24) (v := ?v24a) ?h24a hS ?_
      case h24a => (intro w hw; go_simp; first | done | (with_reducible rfl))
      try simp only [Act.put, List.setIfInBounds_toArray, List.set_cons_zero, List.set_cons_succ]
      refine H.tk (i := 25) (v := .string yb) ?h25a hS ?_
      case h25a => exact (fun w hw => by have c := hw.1.cell 8 (.string yb) rfl; go_simp)
      try simp only [Act.put, List.setIfInBounds_toArray, List.set_cons_zero, List.set_cons_succ]
      refine H.tk (i := 26) (v := .bool true) ?h26a hS ?_
      case h26a => exact (fun w hw => by go_simp)
      try simp only [Act.put, List.setIfInBounds_toArray, List.set_cons_zero, List.set_cons_succ]
      refine H.tk (i := 27) (v := (.bool true)) (fun w _ => rfl) hS ?_
      try simp only [Act.put, List.setIfInBounds_toArray, List.set_cons_zero, List.set_cons_succ]
      refine H.tk (i := 28) (v := (.bool true)) (fun w _ => rfl) hS ?_
      try simp only [Act.put, List.setIfInBounds_toArray, List.set_cons_zero, List.set_cons_succ]
      refine H.tk (i := 29) (v := ?v29a) ?h29a hS ?_
      case h29a => (intro w hw; go_simp; first | done | (with_reducible rfl))
      try simp only [Act.put, List.setIfInBounds_toArray, List.set_cons_zero, List.set_cons_succ]
      refine H.tk (i := 30) (v := .int .i64 3) ?h30a hS ?_
      case h30a => exact (fun w hw => by have c := hw.1.cell 0 (.int .i64 3) rfl; go_simp)
      try simp only [Act.put, List.setIfInBounds_toArray, List.set_cons_zero, List.set_cons_succ]
      refine H.tk (i := 31) (v := ?v31a) ?h31a hS ?_
      case h31a => (intro w hw; go_simp; first | done | (with_reducible rfl))
      try simp only [Act.put, List.setIfInBounds_toArray, List.set_cons_zero, List.set_cons_succ]
      refine H.tk (i := 32) (v := .int .u8 3) ?h32a hS ?_
      case h32a => exact (fun w hw => by go_simp)
      try simp only [Act.put, List.setIfInBounds_toArray, List.set_cons_zero, List.set_cons_succ]
      refine H.tk (i := 33) (v := .int .i64 3) ?h33a hS ?_
      case h33a => exact (fun w hw => by go_simp)
      try simp only [Act.put, List.setIfInBounds_toArray, List.set_cons_zero, List.set_cons_succ]
      refine H.tk (i := 34) (v := .bool true) ?h34a hS ?_
      case h34a => exact (fun w hw => by go_simp)
      try simp only [Act.put, List.setIfInBounds_toArray, List.set_cons_zero, List.set_cons_succ]
      refine H.tk (i := 35) (v := (.bool true)) (fun w _ => rfl) hS ?_
      try simp only [Act.put, List.setIfInBounds_toArray, List.set_cons_zero, List.set_cons_succ]
      refine H.tk (i := 36) (v := (.bool true)) (fun w _ => rfl) hS ?_
      try simp only [Act.put, List.setIfInBounds_toArray, List.set_cons_zero, List.set_cons_succ]
      refine H.tk (i := 37) (v := ?v37a) ?h37a hS ?_
      case h37a => (intro w hw; go_simp; first | done | (with_reducible rfl))
      try simp only [Act.put, List.setIfInBounds_toArray, List.set_cons_zero, List.set_cons_succ]
      refine H.tk (i := 38) (v := .int .i64 3) ?h38a hS ?_
      case h38a => exact (fun w hw => by have c := hw.1.cell 0 (.int .i64 3) rfl; go_simp)
      try simp only [Act.put, List.setIfInBounds_toArray, List.set_cons_zero, List.set_cons_succ]
      refine H.tk (i := 39) (v := .bool true) ?h39a hS ?_
      case h39a => exact (fun w hw => by go_simp)
      try simp only [Act.put, List.setIfInBounds_toArray, List.set_cons_zero, List.set_cons_succ]
      refine H.tk (i := 40) (v := (.bool true)) (fun w _ => rfl) hS ?_
      try simp only [Act.put, List.setIfInBounds_toArray, List.set_cons_zero, List.set_cons_succ]
      refine H.tk (i := 41) (v := (.bool true)) (fun w _ => rfl) hS ?_
      try simp only [Act.put, List.setIfInBounds_toArray, List.set_cons_zero, List.set_cons_succ]
      refine H.tk (i := 42) (v := ?v42a) ?h42a hS ?_
      case h42a => (intro w hw; go_simp; first | done | (with_reducible rfl))
      try simp only [Act.put, List.setIfInBounds_toArray, List.set_cons_zero, List.set_cons_succ]
      refine H.tk (i := 43) (v := .int .i64 (256 * y8 + y9)) ?h43a hS ?_
      case h43a => exact (fun w hw => by have c := hw.1.cell 6 (.int .i64 (256 * y8 + y9)) rfl; go_simp)
      try simp only [Act.put, List.setIfInBounds_toArray, List.set_cons_zero, List.set_cons_succ]
      refine H.tk (i := 44) (v := ?v44a) ?h44a hS ?_
      case h44a => (intro w hw; go_simp; first | done | (with_reducible rfl))
      try simp only [Act.put, List.setIfInBounds_toArray, List.set_cons_zero, List.set_cons_succ]
      refine H.tk (i := 45) (v := .int .u8 y8) ?h45a hS ?_
      case h45a => exact (fun w hw => by go_simp)
      try simp only [Act.put, List.setIfInBounds_toArray, List.set_cons_zero, List.set_cons_succ]
      refine H.tk (i := 46) (v := .int .i64 y8) ?h46a hS ?_
      case h46a => exact (fun w hw => by go_simp)
      try simp only [Act.put, List.setIfInBounds_toArray, List.set_cons_zero, List.set_cons_succ]
      refine H.tk (i := 47) (v := .int .i64 (256 * y8)) ?h47a hS ?_
      case h47a => exact (fun w hw => by go_simp)
      try simp only [Act.put, List.setIfInBounds_toArray, List.set_cons_zero, List.set_cons_succ]
      refine H.tk (i := 48) (v := ?v48a) ?h48a hS ?_
      case h48a => (intro w hw; go_simp; first | done | (with_reducible rfl))
      try simp only [Act.put, List.setIfInBounds_toArray, List.set_cons_zero, List.set_cons_succ]
      refine H.tk (i := 49) (v := .int .u8 y9) ?h49a hS ?_
      case h49a => exact (fun w hw => by go_simp)
      try simp only [Act.put, List.setIfInBounds_toArray, List.set_cons_zero, List.set_cons_succ]
      refine H.tk (i := 50) (v := .int .i64 y9) ?h50a hS ?_
      case h50a => exact (fun w hw => by go_simp)
      try simp only [Act.put, List.setIfInBounds_toArray, List.set_cons_zero, List.set_cons_succ]
      refine H.tk (i := 51) (v := .int .i64 (256 * y8 + y9)) ?h51a hS ?_
      case h51a => exact (fun w hw => by go_simp)
      try simp only [Act.put, List.setIfInBounds_toArray, List.set_cons_zero, List.set_cons_succ]
      refine H.tk (i := 52) (v := .bool true) ?h52a hS ?_
      case h52a => exact (fun w hw => by go_simp)
      try simp only [Act.put, List.setIfInBounds_toArray, List.set_cons_zero, List.set_cons_succ]
      refine H.tk (i := 53) (v := (.bool true)) (fun w _ => rfl) hS ?_
      try simp only [Act.put, List.setIfInBounds_toArray, List.set_cons_zero, List.set_cons_succ]
      refine H.tk (i := 54) (v := (.bool true)) (fun w _ => rfl) hS ?_
      try simp only [Act.put, List.setIfInBounds_toArray, List.set_cons_zero, List.set_cons_succ]
      refine H.tk (i := 55) (v := ?v55a) ?h55a hS ?_
      case h55a => (intro w hw; go_simp; first | done | (with_reducible rfl))
      try simp only [Act.put, List.setIfInBounds_toArray, List.set_cons_zero, List.set_cons_succ]
      refine H.tk (i := 56) (v := .int .i64 0) ?h56a hS ?_
      case h56a => exact (fun w hw => by have c := hw.1.cell 7 (.int .i64 0) rfl; go_simp)
      try simp only [Act.put, List.setIfInBounds_toArray, List.set_cons_zero, List.set_cons_succ]
      refine H.tk (i := 57) (v := .bool true) ?h57a hS ?_
      case h57a => exact (fun w hw => by go_simp)
      try simp only [Act.put, List.setIfInBounds_toArray, List.set_cons_zero, List.set_cons_succ]
      refine H.tk (i := 58) (v := (.bool true)) (fun w _ => rfl) hS ?_
      try simp only [Act.put, List.setIfInBounds_toArray, List.set_cons_zero, List.set_cons_succ]
      refine H.sk (i := 59) (d := 97) hS ?_
      try simp only [Act.put, List.setIfInBounds_toArray, List.set_cons_zero, List.set_cons_succ]
      refine H.sk (i := 60) (d := 98) hS ?_
      try simp only [Act.put, List.setIfInBounds_toArray, List.set_cons_zero, List.set_cons_succ]
      refine H.sk (i := 61) (d := 99) hS ?_
      try simp only [Act.put, List.setIfInBounds_toArray, List.set_cons_zero, List.set_cons_succ]
      refine H.tk (i := 62) (v := (Value.bool true)) (fun w _ => rfl) hS ?_
      try simp only [Act.put, List.setIfInBounds_toArray, List.set_cons_zero, List.set_cons_succ]
      refine H.tk (i := 63) (v := (Value.bool true)) (fun w _ => rfl) hS ?_
      try simp only [Act.put, List.setIfInBounds_toArray, List.set_cons_zero, List.set_cons_succ]
      refine H.tk (i := 64) (v := (Value.bool true)) (fun w _ => rfl) hS ?_
      try simp only [Act.put, List.setIfInBounds_toArray, List.set_cons_zero, List.set_cons_succ]
      refine wpAnyH_done (by kernel_rfl) ?_ _
      go_wp2
      go_ret
      exact ⟨rfl, hS.2.2⟩
    · rw [show outK d = (({ Up.zero with ae := 3, flags := y1, plen := y2, om := y3, iv := y4, seq := y6, metric := 256 * y8 + y9, hav := 1, bytes := yb, sl := yl } : Up), true, 0) from hX] at P1
      clear hX
      obtain ⟨q, hqq⟩ : ∃ q : Up, q = { Up.zero with ae := 3, flags := y1, plen := y2, om := y3, iv := y4, seq := y6, metric := 256 * y8 + y9, hav := 1, bytes := yb, sl := yl } := ⟨_, rfl⟩
      rw [← hqq] at P1
      have HQQ := Lib.hid hqq
      clear hqq
      go_enter Tryd.func6, Tryd.ntmps6
      go_wp2_with fail
      refine (P1.out _ HT.out).mono ?_
      intro r w1 hr
      obtain ⟨sa1, sc1, rfl, hl, hb⟩ := hr
      have HT := Lib.hid (HT.out.below hb)
      have HB := Lib.hid (bcall HB.out hb)
      go_upto_region 4 with (refine wpList_storeU (b := w1.heap.size) (m := Up.zero) (m' := { q with sa := sa1, sc := sc1 }) rfl _ _ rfl rfl rfl (Bk.Bk.new 37 w1 Up.zero.cells) ?_)
      change Code.wp _ _ _ _ ((w1.alloc (.cells Up.zero.cells 37)).setRow w1.heap.size (Up.cells { q with sa := sa1, sc := sc1 }))
      rw [World.setRow_alloc_new]
      have bel := balloc (Below.refl w1.heap.size w1) (.cells (Up.cells { q with sa := sa1, sc := sc1 }) 37)
      have I1 := Lib.hid (hl.row.below bel)
      have HT := Lib.hid (HT.out.below bel)
      have HB := Lib.hid (bcall HB.out bel)
      have X1 := Lib.hid (Bk.Bk.new 37 w1 (Up.cells { q with sa := sa1, sc := sc1 }))
      clear hl hb bel
      generalize w1.alloc (.cells (Up.cells { q with sa := sa1, sc := sc1 }) 37) = V1 at *
      generalize w1.heap.size = g1 at *
      have hqq := HQQ.out
      subst hqq
      have X1 := Lib.hid (show Bk 37 V1 g1 (Up.cells { Up.zero with ae := 3, flags := y1, plen := y2, om := y3, iv := y4, seq := y6, metric := 256 * y8 + y9, hav := 1, bytes := yb, sa := sa1, sl := yl, sc := sc1 }) from X1.out)
      have c2 := X1.out.cell 2 (.int .i64 y2) rfl
      have c3 := X1.out.cell 3 (.int .i64 y3) rfl
      have c0 := X1.out.cell 0 (.int .i64 3) rfl
      go_upto_region 9 with fail
      clear c0 c2 c3
      refine wp_region_held_drew (S := UT w g1 { Up.zero with ae := 3, flags := y1, plen := y2, om := y3, iv := y4, seq := y6, metric := 256 * y8 + y9, hav := 1, bytes := yb, sa := sa1, sl := yl, sc := sc1 }) (by kernel_rfl) (UT.drew ⟨X1.out, HT.out, HB.out⟩) (fun hS => ?_)
      generalize V1.drew = X0 at *
      refine wpAnyH_ready (rs := [0]) (by kernel_rfl) (by simp) ?_
      refine AllReadyH.cons rfl (fun K hK => ?_) AllReadyH.nil
      go_simp
      refine (heldU (awake_any _ hS.2.1) hS).mono ?_
      rintro e w0 ⟨rfl, hS0⟩
      refine hK.out _ _ hS0 (fun _ => ?_)
      clear hK K hS
      have hS := hS0
      clear hS0
      refine H.tk (i := 1) (v := (.bool true)) (fun w _ => rfl) hS ?_
      try simp only [Act.put, List.setIfInBounds_toArray, List.set_cons_zero, List.set_cons_succ]
      refine H.tk (i := 2) (v := ?v2b) ?h2b hS ?_
      case h2b => (intro w hw; go_simp; first | done | (with_reducible rfl))
      try simp only [Act.put, List.setIfInBounds_toArray, List.set_cons_zero, List.set_cons_succ]
      refine H.tk (i := 3) (v := .bool true) ?h3b hS ?_
      case h3b => exact (fun w hw => by go_simp)
      try simp only [Act.put, List.setIfInBounds_toArray, List.set_cons_zero, List.set_cons_succ]
      refine H.tk (i := 4) (v := (.bool true)) (fun w _ => rfl) hS ?_
      try simp only [Act.put, List.setIfInBounds_toArray, List.set_cons_zero, List.set_cons_succ]
      refine H.tk (i := 5) (v := (.bool true)) (fun w _ => rfl) hS ?_
      try simp only [Act.put, List.setIfInBounds_toArray, List.set_cons_zero, List.set_cons_succ]
      refine H.tk (i := 6) (v := ?v6b) ?h6b hS ?_
      case h6b => (intro w hw; go_simp; first | done | (with_reducible rfl))
      try simp only [Act.put, List.setIfInBounds_toArray, List.set_cons_zero, List.set_cons_succ]
      refine H.tk (i := 7) (v := .string yb) ?h7b hS ?_
      case h7b => exact (fun w hw => by have c := hw.1.cell 8 (.string yb) rfl; go_simp)
      try simp only [Act.put, List.setIfInBounds_toArray, List.set_cons_zero, List.set_cons_succ]
      refine H.tk (i := 8) (v := .int .i64 (yb.size : Int)) ?h8b hS ?_
      case h8b => exact (fun w hw => by go_simp)
      try simp only [Act.put, List.setIfInBounds_toArray, List.set_cons_zero, List.set_cons_succ]
      refine H.tk (i := 9) (v := .int .i64 (n : Int)) ?h9b hS ?_
      case h9b => exact (fun w hw => by go_simp)
      try simp only [Act.put, List.setIfInBounds_toArray, List.set_cons_zero, List.set_cons_succ]
      refine H.tk (i := 10) (v := .bool true) ?h10b hS ?_
      case h10b => exact (fun w hw => by go_simp)
      try simp only [Act.put, List.setIfInBounds_toArray, List.set_cons_zero, List.set_cons_succ]
      refine H.tk (i := 11) (v := (.bool true)) (fun w _ => rfl) hS ?_
      try simp only [Act.put, List.setIfInBounds_toArray, List.set_cons_zero, List.set_cons_succ]
      refine H.tk (i := 12) (v := (.bool true)) (fun w _ => rfl) hS ?_
      try simp only [Act.put, List.setIfInBounds_toArray, List.set_cons_zero, List.set_cons_succ]
      refine H.tk (i := 13) (v := ?v13b) ?h13b hS ?_
      case h13b => (intro w hw; go_simp; first | done | (with_reducible rfl))
      try simp only [Act.put, List.setIfInBounds_toArray, List.set_cons_zero, List.set_cons_succ]
      refine H.tk (i := 14) (v := .int .i64 (d.size : Int)) ?h14b hS ?_
      case h14b => exact (fun w hw => by go_simp)
      try simp only [Act.put, List.setIfInBounds_toArray, List.set_cons_zero, List.set_cons_succ]
      refine H.tk (i := 15) (v := .int .i64 (n : Int)) ?h15b hS ?_
      case h15b => exact (fun w hw => by go_simp)
      try simp only [Act.put, List.setIfInBounds_toArray, List.set_cons_zero, List.set_cons_succ]
      refine H.tk (i := 16) (v := .int .i64 (10 + (n : Int))) ?h16b hS ?_
      case h16b => exact (fun w hw => by go_simp)
      try simp only [Act.put, List.setIfInBounds_toArray, List.set_cons_zero, List.set_cons_succ]
      refine H.tk (i := 17) (v := .bool true) ?h17b hS ?_
      case h17b => exact (fun w hw => by go_simp)
      try simp only [Act.put, List.setIfInBounds_toArray, List.set_cons_zero, List.set_cons_succ]
      refine H.tk (i := 18) (v := (.bool true)) (fun w _ => rfl) hS ?_
      try simp only [Act.put, List.setIfInBounds_toArray, List.set_cons_zero, List.set_cons_succ]
      refine H.tk (i := 19) (v := (.bool true)) (fun w _ => rfl) hS ?_
      try simp only [Act.put, List.setIfInBounds_toArray, List.set_cons_zero, List.set_cons_succ]
      refine H.tk (i := 20) (v := ?v20b) ?h20b hS ?_
      case h20b => (intro w hw; go_simp; first | done | (with_reducible rfl))
      try simp only [Act.put, List.setIfInBounds_toArray, List.set_cons_zero, List.set_cons_succ]
      refine H.tk (i := 21) (v := .int .i64 (n : Int)) ?h21b hS ?_
      case h21b => exact (fun w hw => by go_simp)
      try simp only [Act.put, List.setIfInBounds_toArray, List.set_cons_zero, List.set_cons_succ]
      refine H.tk (i := 22) (v := .int .i64 (10 + (n : Int))) ?h22b hS ?_
      case h22b => exact (fun w hw => by go_simp)
      try simp only [Act.put, List.setIfInBounds_toArray, List.set_cons_zero, List.set_cons_succ]
      refine H.tk (i := 23) (v := .string yb) ?h23b hS ?_
      case h23b => exact (fun w hw => by go_simp)
      try simp only [Act.put, List.setIfInBounds_toArray, List.set_cons_zero, List.set_cons_succ]
      refine H.tk (i := 24) (v := ?v24b) ?h24b hS ?_
      case h24b => (intro w hw; go_simp; first | done | (with_reducible rfl))
      try simp only [Act.put, List.setIfInBounds_toArray, List.set_cons_zero, List.set_cons_succ]
      refine H.tk (i := 25) (v := .string yb) ?h25b hS ?_
      case h25b => exact (fun w hw => by have c := hw.1.cell 8 (.string yb) rfl; go_simp)
      try simp only [Act.put, List.setIfInBounds_toArray, List.set_cons_zero, List.set_cons_succ]
      refine H.tk (i := 26) (v := .bool true) ?h26b hS ?_
      case h26b => exact (fun w hw => by go_simp)
      try simp only [Act.put, List.setIfInBounds_toArray, List.set_cons_zero, List.set_cons_succ]
      refine H.tk (i := 27) (v := (.bool true)) (fun w _ => rfl) hS ?_
      try simp only [Act.put, List.setIfInBounds_toArray, List.set_cons_zero, List.set_cons_succ]
      refine H.tk (i := 28) (v := (.bool true)) (fun w _ => rfl) hS ?_
      try simp only [Act.put, List.setIfInBounds_toArray, List.set_cons_zero, List.set_cons_succ]
      refine H.tk (i := 29) (v := ?v29b) ?h29b hS ?_
      case h29b => (intro w hw; go_simp; first | done | (with_reducible rfl))
      try simp only [Act.put, List.setIfInBounds_toArray, List.set_cons_zero, List.set_cons_succ]
      refine H.tk (i := 30) (v := .int .i64 3) ?h30b hS ?_
      case h30b => exact (fun w hw => by have c := hw.1.cell 0 (.int .i64 3) rfl; go_simp)
      try simp only [Act.put, List.setIfInBounds_toArray, List.set_cons_zero, List.set_cons_succ]
      refine H.tk (i := 31) (v := ?v31b) ?h31b hS ?_
      case h31b => (intro w hw; go_simp; first | done | (with_reducible rfl))
      try simp only [Act.put, List.setIfInBounds_toArray, List.set_cons_zero, List.set_cons_succ]
      refine H.tk (i := 32) (v := .int .u8 3) ?h32b hS ?_
      case h32b => exact (fun w hw => by go_simp)
      try simp only [Act.put, List.setIfInBounds_toArray, List.set_cons_zero, List.set_cons_succ]
      refine H.tk (i := 33) (v := .int .i64 3) ?h33b hS ?_
      case h33b => exact (fun w hw => by go_simp)
      try simp only [Act.put, List.setIfInBounds_toArray, List.set_cons_zero, List.set_cons_succ]
      refine H.tk (i := 34) (v := .bool true) ?h34b hS ?_
      case h34b => exact (fun w hw => by go_simp)
      try simp only [Act.put, List.setIfInBounds_toArray, List.set_cons_zero, List.set_cons_succ]
      refine H.tk (i := 35) (v := (.bool true)) (fun w _ => rfl) hS ?_
      try simp only [Act.put, List.setIfInBounds_toArray, List.set_cons_zero, List.set_cons_succ]
      refine H.tk (i := 36) (v := (.bool true)) (fun w _ => rfl) hS ?_
      try simp only [Act.put, List.setIfInBounds_toArray, List.set_cons_zero, List.set_cons_succ]
      refine H.tk (i := 37) (v := ?v37b) ?h37b hS ?_
      case h37b => (intro w hw; go_simp; first | done | (with_reducible rfl))
      try simp only [Act.put, List.setIfInBounds_toArray, List.set_cons_zero, List.set_cons_succ]
      refine H.tk (i := 38) (v := .int .i64 3) ?h38b hS ?_
      case h38b => exact (fun w hw => by have c := hw.1.cell 0 (.int .i64 3) rfl; go_simp)
      try simp only [Act.put, List.setIfInBounds_toArray, List.set_cons_zero, List.set_cons_succ]
      refine H.tk (i := 39) (v := .bool true) ?h39b hS ?_
      case h39b => exact (fun w hw => by go_simp)
      try simp only [Act.put, List.setIfInBounds_toArray, List.set_cons_zero, List.set_cons_succ]
      refine H.tk (i := 40) (v := (.bool true)) (fun w _ => rfl) hS ?_
      try simp only [Act.put, List.setIfInBounds_toArray, List.set_cons_zero, List.set_cons_succ]
      refine H.tk (i := 41) (v := (.bool true)) (fun w _ => rfl) hS ?_
      try simp only [Act.put, List.setIfInBounds_toArray, List.set_cons_zero, List.set_cons_succ]
      refine H.tk (i := 42) (v := ?v42b) ?h42b hS ?_
      case h42b => (intro w hw; go_simp; first | done | (with_reducible rfl))
      try simp only [Act.put, List.setIfInBounds_toArray, List.set_cons_zero, List.set_cons_succ]
      refine H.tk (i := 43) (v := .int .i64 (256 * y8 + y9)) ?h43b hS ?_
      case h43b => exact (fun w hw => by have c := hw.1.cell 6 (.int .i64 (256 * y8 + y9)) rfl; go_simp)
      try simp only [Act.put, List.setIfInBounds_toArray, List.set_cons_zero, List.set_cons_succ]
      refine H.tk (i := 44) (v := ?v44b) ?h44b hS ?_
      case h44b => (intro w hw; go_simp; first | done | (with_reducible rfl))
      try simp only [Act.put, List.setIfInBounds_toArray, List.set_cons_zero, List.set_cons_succ]
      refine H.tk (i := 45) (v := .int .u8 y8) ?h45b hS ?_
      case h45b => exact (fun w hw => by go_simp)
      try simp only [Act.put, List.setIfInBounds_toArray, List.set_cons_zero, List.set_cons_succ]
      refine H.tk (i := 46) (v := .int .i64 y8) ?h46b hS ?_
      case h46b => exact (fun w hw => by go_simp)
      try simp only [Act.put, List.setIfInBounds_toArray, List.set_cons_zero, List.set_cons_succ]
      refine H.tk (i := 47) (v := .int .i64 (256 * y8)) ?h47b hS ?_
      case h47b => exact (fun w hw => by go_simp)
      try simp only [Act.put, List.setIfInBounds_toArray, List.set_cons_zero, List.set_cons_succ]
      refine H.tk (i := 48) (v := ?v48b) ?h48b hS ?_
      case h48b => (intro w hw; go_simp; first | done | (with_reducible rfl))
      try simp only [Act.put, List.setIfInBounds_toArray, List.set_cons_zero, List.set_cons_succ]
      refine H.tk (i := 49) (v := .int .u8 y9) ?h49b hS ?_
      case h49b => exact (fun w hw => by go_simp)
      try simp only [Act.put, List.setIfInBounds_toArray, List.set_cons_zero, List.set_cons_succ]
      refine H.tk (i := 50) (v := .int .i64 y9) ?h50b hS ?_
      case h50b => exact (fun w hw => by go_simp)
      try simp only [Act.put, List.setIfInBounds_toArray, List.set_cons_zero, List.set_cons_succ]
      refine H.tk (i := 51) (v := .int .i64 (256 * y8 + y9)) ?h51b hS ?_
      case h51b => exact (fun w hw => by go_simp)
      try simp only [Act.put, List.setIfInBounds_toArray, List.set_cons_zero, List.set_cons_succ]
      refine H.tk (i := 52) (v := .bool true) ?h52b hS ?_
      case h52b => exact (fun w hw => by go_simp)
      try simp only [Act.put, List.setIfInBounds_toArray, List.set_cons_zero, List.set_cons_succ]
      refine H.tk (i := 53) (v := (.bool true)) (fun w _ => rfl) hS ?_
      try simp only [Act.put, List.setIfInBounds_toArray, List.set_cons_zero, List.set_cons_succ]
      refine H.tk (i := 54) (v := (.bool true)) (fun w _ => rfl) hS ?_
      try simp only [Act.put, List.setIfInBounds_toArray, List.set_cons_zero, List.set_cons_succ]
      refine H.tk (i := 55) (v := ?v55b) ?h55b hS ?_
      case h55b => (intro w hw; go_simp; first | done | (with_reducible rfl))
      try simp only [Act.put, List.setIfInBounds_toArray, List.set_cons_zero, List.set_cons_succ]
      refine H.tk (i := 56) (v := .int .i64 1) ?h56b hS ?_
      case h56b => exact (fun w hw => by have c := hw.1.cell 7 (.int .i64 1) rfl; go_simp)
      try simp only [Act.put, List.setIfInBounds_toArray, List.set_cons_zero, List.set_cons_succ]
      refine H.tk (i := 57) (v := .bool false) ?h57b hS ?_
      case h57b => exact (fun w hw => by go_simp)
      try simp only [Act.put, List.setIfInBounds_toArray, List.set_cons_zero, List.set_cons_succ]
      refine H.tk (i := 58) (v := (.bool false)) (fun w _ => rfl) hS ?_
      try simp only [Act.put, List.setIfInBounds_toArray, List.set_cons_zero, List.set_cons_succ]
      refine H.tk (i := 59) (v := ?v59b) ?h59b hS ?_
      case h59b => (intro w hw; go_simp; first | done | (with_reducible rfl))
      try simp only [Act.put, List.setIfInBounds_toArray, List.set_cons_zero, List.set_cons_succ]
      refine H.tk (i := 60) (v := .int .i64 1) ?h60b hS ?_
      case h60b => exact (fun w hw => by have c := hw.1.cell 7 (.int .i64 1) rfl; go_simp)
      try simp only [Act.put, List.setIfInBounds_toArray, List.set_cons_zero, List.set_cons_succ]
      refine H.tk (i := 61) (v := .bool true) ?h61b hS ?_
      case h61b => exact (fun w hw => by go_simp)
      try simp only [Act.put, List.setIfInBounds_toArray, List.set_cons_zero, List.set_cons_succ]
      refine H.tk (i := 62) (v := (.bool true)) (fun w _ => rfl) hS ?_
      try simp only [Act.put, List.setIfInBounds_toArray, List.set_cons_zero, List.set_cons_succ]
      refine H.tk (i := 63) (v := (.bool true)) (fun w _ => rfl) hS ?_
      try simp only [Act.put, List.setIfInBounds_toArray, List.set_cons_zero, List.set_cons_succ]
      refine H.tk (i := 64) (v := (.bool true)) (fun w _ => rfl) hS ?_
      try simp only [Act.put, List.setIfInBounds_toArray, List.set_cons_zero, List.set_cons_succ]
      refine wpAnyH_done (by kernel_rfl) ?_ _
      go_wp2
      go_ret
      exact ⟨rfl, hS.2.2⟩
  have hb8 : baseN y0 = 0 := by unfold baseN; rw [if_neg h3]
  have e8 : (y0 == 3) = false := by simpa using h3
  have hw6 : wrap64 ((y2 + 7) / 8 - y3) = (n : Int) := by rw [IntWalk.wrap64_in _ ⟨by omega, by omega⟩]; omega
  clear hc hn HCn hle hom hb8
  cases kn
  · rw [show outK d = (({ Up.zero with ae := y0, flags := y1, plen := y2, om := y3, iv := y4, seq := y6, metric := 256 * y8 + y9, hav := 0, bytes := yb, sl := yl } : Up), true, 0) from hX] at P1
    clear hX
    obtain ⟨q, hqq⟩ : ∃ q : Up, q = { Up.zero with ae := y0, flags := y1, plen := y2, om := y3, iv := y4, seq := y6, metric := 256 * y8 + y9, hav := 0, bytes := yb, sl := yl } := ⟨_, rfl⟩
    rw [← hqq] at P1
    have HQQ := Lib.hid hqq
    clear hqq
    go_enter Tryd.func6, Tryd.ntmps6
    go_wp2_with fail
    refine (P1.out _ HT.out).mono ?_
    intro r w1 hr
    obtain ⟨sa1, sc1, rfl, hl, hb⟩ := hr
    have HT := Lib.hid (HT.out.below hb)
    have HB := Lib.hid (bcall HB.out hb)
    go_upto_region 4 with (refine wpList_storeU (b := w1.heap.size) (m := Up.zero) (m' := { q with sa := sa1, sc := sc1 }) rfl _ _ rfl rfl rfl (Bk.Bk.new 37 w1 Up.zero.cells) ?_)
    change Code.wp _ _ _ _ ((w1.alloc (.cells Up.zero.cells 37)).setRow w1.heap.size (Up.cells { q with sa := sa1, sc := sc1 }))
    rw [World.setRow_alloc_new]
    have bel := balloc (Below.refl w1.heap.size w1) (.cells (Up.cells { q with sa := sa1, sc := sc1 }) 37)
    have I1 := Lib.hid (hl.row.below bel)
    have HT := Lib.hid (HT.out.below bel)
    have HB := Lib.hid (bcall HB.out bel)
    have X1 := Lib.hid (Bk.Bk.new 37 w1 (Up.cells { q with sa := sa1, sc := sc1 }))
    clear hl hb bel
    generalize w1.alloc (.cells (Up.cells { q with sa := sa1, sc := sc1 }) 37) = V1 at *
    generalize w1.heap.size = g1 at *
    have hqq := HQQ.out
    subst hqq
    have X1 := Lib.hid (show Bk 37 V1 g1 (Up.cells { Up.zero with ae := y0, flags := y1, plen := y2, om := y3, iv := y4, seq := y6, metric := 256 * y8 + y9, hav := 0, bytes := yb, sa := sa1, sl := yl, sc := sc1 }) from X1.out)
    have c2 := X1.out.cell 2 (.int .i64 y2) rfl
    have c3 := X1.out.cell 3 (.int .i64 y3) rfl
    have c0 := X1.out.cell 0 (.int .i64 y0) rfl
    go_upto_region 9 with fail
    clear c0 c2 c3
    refine wp_region_held_drew (S := UT w g1 { Up.zero with ae := y0, flags := y1, plen := y2, om := y3, iv := y4, seq := y6, metric := 256 * y8 + y9, hav := 0, bytes := yb, sa := sa1, sl := yl, sc := sc1 }) (by kernel_rfl) (UT.drew ⟨X1.out, HT.out, HB.out⟩) (fun hS => ?_)
    generalize V1.drew = X0 at *
    refine wpAnyH_ready (rs := [0]) (by kernel_rfl) (by simp) ?_
    refine AllReadyH.cons rfl (fun K hK => ?_) AllReadyH.nil
    go_simp
    refine (heldU (awake_any _ hS.2.1) hS).mono ?_
    rintro e w0 ⟨rfl, hS0⟩
    refine hK.out _ _ hS0 (fun _ => ?_)
    clear hK K hS
    have hS := hS0
    clear hS0
    refine H.tk (i := 1) (v := (.bool true)) (fun w _ => rfl) hS ?_
    try simp only [Act.put, List.setIfInBounds_toArray, List.set_cons_zero, List.set_cons_succ]
    refine H.tk (i := 2) (v := ?v2c) ?h2c hS ?_
    case h2c => (intro w hw; go_simp; first | done | (with_reducible rfl))
    try simp only [Act.put, List.setIfInBounds_toArray, List.set_cons_zero, List.set_cons_succ]
    refine H.tk (i := 3) (v := .bool true) ?h3c hS ?_
    case h3c => exact (fun w hw => by go_simp)
    try simp only [Act.put, List.setIfInBounds_toArray, List.set_cons_zero, List.set_cons_succ]
    refine H.tk (i := 4) (v := (.bool true)) (fun w _ => rfl) hS ?_
    try simp only [Act.put, List.setIfInBounds_toArray, List.set_cons_zero, List.set_cons_succ]
    refine H.tk (i := 5) (v := (.bool true)) (fun w _ => rfl) hS ?_
    try simp only [Act.put, List.setIfInBounds_toArray, List.set_cons_zero, List.set_cons_succ]
    refine H.tk (i := 6) (v := ?v6c) ?h6c hS ?_
    case h6c => (intro w hw; go_simp; first | done | (with_reducible rfl))
    try simp only [Act.put, List.setIfInBounds_toArray, List.set_cons_zero, List.set_cons_succ]
    refine H.tk (i := 7) (v := .string yb) ?h7c hS ?_
    case h7c => exact (fun w hw => by have c := hw.1.cell 8 (.string yb) rfl; go_simp)
    try simp only [Act.put, List.setIfInBounds_toArray, List.set_cons_zero, List.set_cons_succ]
    refine H.tk (i := 8) (v := .int .i64 (yb.size : Int)) ?h8c hS ?_
    case h8c => exact (fun w hw => by go_simp)
    try simp only [Act.put, List.setIfInBounds_toArray, List.set_cons_zero, List.set_cons_succ]
    refine H.tk (i := 9) (v := .int .i64 (n : Int)) ?h9c hS ?_
    case h9c => exact (fun w hw => by go_simp)
    try simp only [Act.put, List.setIfInBounds_toArray, List.set_cons_zero, List.set_cons_succ]
    refine H.tk (i := 10) (v := .bool true) ?h10c hS ?_
    case h10c => exact (fun w hw => by go_simp)
    try simp only [Act.put, List.setIfInBounds_toArray, List.set_cons_zero, List.set_cons_succ]
    refine H.tk (i := 11) (v := (.bool true)) (fun w _ => rfl) hS ?_
    try simp only [Act.put, List.setIfInBounds_toArray, List.set_cons_zero, List.set_cons_succ]
    refine H.tk (i := 12) (v := (.bool true)) (fun w _ => rfl) hS ?_
    try simp only [Act.put, List.setIfInBounds_toArray, List.set_cons_zero, List.set_cons_succ]
    refine H.tk (i := 13) (v := ?v13c) ?h13c hS ?_
    case h13c => (intro w hw; go_simp; first | done | (with_reducible rfl))
    try simp only [Act.put, List.setIfInBounds_toArray, List.set_cons_zero, List.set_cons_succ]
    refine H.tk (i := 14) (v := .int .i64 (d.size : Int)) ?h14c hS ?_
    case h14c => exact (fun w hw => by go_simp)
    try simp only [Act.put, List.setIfInBounds_toArray, List.set_cons_zero, List.set_cons_succ]
    refine H.tk (i := 15) (v := .int .i64 (n : Int)) ?h15c hS ?_
    case h15c => exact (fun w hw => by go_simp)
    try simp only [Act.put, List.setIfInBounds_toArray, List.set_cons_zero, List.set_cons_succ]
    refine H.tk (i := 16) (v := .int .i64 (10 + (n : Int))) ?h16c hS ?_
    case h16c => exact (fun w hw => by go_simp)
    try simp only [Act.put, List.setIfInBounds_toArray, List.set_cons_zero, List.set_cons_succ]
    refine H.tk (i := 17) (v := .bool true) ?h17c hS ?_
    case h17c => exact (fun w hw => by go_simp)
    try simp only [Act.put, List.setIfInBounds_toArray, List.set_cons_zero, List.set_cons_succ]
    refine H.tk (i := 18) (v := (.bool true)) (fun w _ => rfl) hS ?_
    try simp only [Act.put, List.setIfInBounds_toArray, List.set_cons_zero, List.set_cons_succ]
    refine H.tk (i := 19) (v := (.bool true)) (fun w _ => rfl) hS ?_
    try simp only [Act.put, List.setIfInBounds_toArray, List.set_cons_zero, List.set_cons_succ]
    refine H.tk (i := 20) (v := ?v20c) ?h20c hS ?_
    case h20c => (intro w hw; go_simp; first | done | (with_reducible rfl))
    try simp only [Act.put, List.setIfInBounds_toArray, List.set_cons_zero, List.set_cons_succ]
    refine H.tk (i := 21) (v := .int .i64 (n : Int)) ?h21c hS ?_
    case h21c => exact (fun w hw => by go_simp)
    try simp only [Act.put, List.setIfInBounds_toArray, List.set_cons_zero, List.set_cons_succ]
    refine H.tk (i := 22) (v := .int .i64 (10 + (n : Int))) ?h22c hS ?_
    case h22c => exact (fun w hw => by go_simp)
    try simp only [Act.put, List.setIfInBounds_toArray, List.set_cons_zero, List.set_cons_succ]
    refine H.tk (i := 23) (v := .string yb) ?h23c hS ?_
    case h23c => exact (fun w hw => by go_simp)
    try simp only [Act.put, List.setIfInBounds_toArray, List.set_cons_zero, List.set_cons_succ]
    refine H.tk (i := 24) (v := ?v24c) ?h24c hS ?_
    case h24c => (intro w hw; go_simp; first | done | (with_reducible rfl))
    try simp only [Act.put, List.setIfInBounds_toArray, List.set_cons_zero, List.set_cons_succ]
    refine H.tk (i := 25) (v := .string yb) ?h25c hS ?_
    case h25c => exact (fun w hw => by have c := hw.1.cell 8 (.string yb) rfl; go_simp)
    try simp only [Act.put, List.setIfInBounds_toArray, List.set_cons_zero, List.set_cons_succ]
    refine H.tk (i := 26) (v := .bool true) ?h26c hS ?_
    case h26c => exact (fun w hw => by go_simp)
    try simp only [Act.put, List.setIfInBounds_toArray, List.set_cons_zero, List.set_cons_succ]
    refine H.tk (i := 27) (v := (.bool true)) (fun w _ => rfl) hS ?_
    try simp only [Act.put, List.setIfInBounds_toArray, List.set_cons_zero, List.set_cons_succ]
    refine H.tk (i := 28) (v := (.bool true)) (fun w _ => rfl) hS ?_
    try simp only [Act.put, List.setIfInBounds_toArray, List.set_cons_zero, List.set_cons_succ]
    refine H.tk (i := 29) (v := ?v29c) ?h29c hS ?_
    case h29c => (intro w hw; go_simp; first | done | (with_reducible rfl))
    try simp only [Act.put, List.setIfInBounds_toArray, List.set_cons_zero, List.set_cons_succ]
    refine H.tk (i := 30) (v := .int .i64 y0) ?h30c hS ?_
    case h30c => exact (fun w hw => by have c := hw.1.cell 0 (.int .i64 y0) rfl; go_simp)
    try simp only [Act.put, List.setIfInBounds_toArray, List.set_cons_zero, List.set_cons_succ]
    refine H.tk (i := 31) (v := ?v31c) ?h31c hS ?_
    case h31c => (intro w hw; go_simp; first | done | (with_reducible rfl))
    try simp only [Act.put, List.setIfInBounds_toArray, List.set_cons_zero, List.set_cons_succ]
    refine H.tk (i := 32) (v := .int .u8 y0) ?h32c hS ?_
    case h32c => exact (fun w hw => by go_simp)
    try simp only [Act.put, List.setIfInBounds_toArray, List.set_cons_zero, List.set_cons_succ]
    refine H.tk (i := 33) (v := .int .i64 y0) ?h33c hS ?_
    case h33c => exact (fun w hw => by go_simp)
    try simp only [Act.put, List.setIfInBounds_toArray, List.set_cons_zero, List.set_cons_succ]
    refine H.tk (i := 34) (v := .bool true) ?h34c hS ?_
    case h34c => exact (fun w hw => by go_simp)
    try simp only [Act.put, List.setIfInBounds_toArray, List.set_cons_zero, List.set_cons_succ]
    refine H.tk (i := 35) (v := (.bool true)) (fun w _ => rfl) hS ?_
    try simp only [Act.put, List.setIfInBounds_toArray, List.set_cons_zero, List.set_cons_succ]
    refine H.tk (i := 36) (v := (.bool true)) (fun w _ => rfl) hS ?_
    try simp only [Act.put, List.setIfInBounds_toArray, List.set_cons_zero, List.set_cons_succ]
    refine H.tk (i := 37) (v := ?v37c) ?h37c hS ?_
    case h37c => (intro w hw; go_simp; first | done | (with_reducible rfl))
    try simp only [Act.put, List.setIfInBounds_toArray, List.set_cons_zero, List.set_cons_succ]
    refine H.tk (i := 38) (v := .int .i64 y0) ?h38c hS ?_
    case h38c => exact (fun w hw => by have c := hw.1.cell 0 (.int .i64 y0) rfl; go_simp)
    try simp only [Act.put, List.setIfInBounds_toArray, List.set_cons_zero, List.set_cons_succ]
    refine H.tk (i := 39) (v := .bool true) ?h39c hS ?_
    case h39c => exact (fun w hw => by go_simp)
    try simp only [Act.put, List.setIfInBounds_toArray, List.set_cons_zero, List.set_cons_succ]
    refine H.tk (i := 40) (v := (.bool true)) (fun w _ => rfl) hS ?_
    try simp only [Act.put, List.setIfInBounds_toArray, List.set_cons_zero, List.set_cons_succ]
    refine H.tk (i := 41) (v := (.bool true)) (fun w _ => rfl) hS ?_
    try simp only [Act.put, List.setIfInBounds_toArray, List.set_cons_zero, List.set_cons_succ]
    refine H.tk (i := 42) (v := ?v42c) ?h42c hS ?_
    case h42c => (intro w hw; go_simp; first | done | (with_reducible rfl))
    try simp only [Act.put, List.setIfInBounds_toArray, List.set_cons_zero, List.set_cons_succ]
    refine H.tk (i := 43) (v := .int .i64 (256 * y8 + y9)) ?h43c hS ?_
    case h43c => exact (fun w hw => by have c := hw.1.cell 6 (.int .i64 (256 * y8 + y9)) rfl; go_simp)
    try simp only [Act.put, List.setIfInBounds_toArray, List.set_cons_zero, List.set_cons_succ]
    refine H.tk (i := 44) (v := ?v44c) ?h44c hS ?_
    case h44c => (intro w hw; go_simp; first | done | (with_reducible rfl))
    try simp only [Act.put, List.setIfInBounds_toArray, List.set_cons_zero, List.set_cons_succ]
    refine H.tk (i := 45) (v := .int .u8 y8) ?h45c hS ?_
    case h45c => exact (fun w hw => by go_simp)
    try simp only [Act.put, List.setIfInBounds_toArray, List.set_cons_zero, List.set_cons_succ]
    refine H.tk (i := 46) (v := .int .i64 y8) ?h46c hS ?_
    case h46c => exact (fun w hw => by go_simp)
    try simp only [Act.put, List.setIfInBounds_toArray, List.set_cons_zero, List.set_cons_succ]
    refine H.tk (i := 47) (v := .int .i64 (256 * y8)) ?h47c hS ?_
    case h47c => exact (fun w hw => by go_simp)
    try simp only [Act.put, List.setIfInBounds_toArray, List.set_cons_zero, List.set_cons_succ]
    refine H.tk (i := 48) (v := ?v48c) ?h48c hS ?_
    case h48c => (intro w hw; go_simp; first | done | (with_reducible rfl))
    try simp only [Act.put, List.setIfInBounds_toArray, List.set_cons_zero, List.set_cons_succ]
    refine H.tk (i := 49) (v := .int .u8 y9) ?h49c hS ?_
    case h49c => exact (fun w hw => by go_simp)
    try simp only [Act.put, List.setIfInBounds_toArray, List.set_cons_zero, List.set_cons_succ]
    refine H.tk (i := 50) (v := .int .i64 y9) ?h50c hS ?_
    case h50c => exact (fun w hw => by go_simp)
    try simp only [Act.put, List.setIfInBounds_toArray, List.set_cons_zero, List.set_cons_succ]
    refine H.tk (i := 51) (v := .int .i64 (256 * y8 + y9)) ?h51c hS ?_
    case h51c => exact (fun w hw => by go_simp)
    try simp only [Act.put, List.setIfInBounds_toArray, List.set_cons_zero, List.set_cons_succ]
    refine H.tk (i := 52) (v := .bool true) ?h52c hS ?_
    case h52c => exact (fun w hw => by go_simp)
    try simp only [Act.put, List.setIfInBounds_toArray, List.set_cons_zero, List.set_cons_succ]
    refine H.tk (i := 53) (v := (.bool true)) (fun w _ => rfl) hS ?_
    try simp only [Act.put, List.setIfInBounds_toArray, List.set_cons_zero, List.set_cons_succ]
    refine H.tk (i := 54) (v := (.bool true)) (fun w _ => rfl) hS ?_
    try simp only [Act.put, List.setIfInBounds_toArray, List.set_cons_zero, List.set_cons_succ]
    refine H.tk (i := 55) (v := ?v55c) ?h55c hS ?_
    case h55c => (intro w hw; go_simp; first | done | (with_reducible rfl))
    try simp only [Act.put, List.setIfInBounds_toArray, List.set_cons_zero, List.set_cons_succ]
    refine H.tk (i := 56) (v := .int .i64 0) ?h56c hS ?_
    case h56c => exact (fun w hw => by have c := hw.1.cell 7 (.int .i64 0) rfl; go_simp)
    try simp only [Act.put, List.setIfInBounds_toArray, List.set_cons_zero, List.set_cons_succ]
    refine H.tk (i := 57) (v := .bool true) ?h57c hS ?_
    case h57c => exact (fun w hw => by go_simp)
    try simp only [Act.put, List.setIfInBounds_toArray, List.set_cons_zero, List.set_cons_succ]
    refine H.tk (i := 58) (v := (.bool true)) (fun w _ => rfl) hS ?_
    try simp only [Act.put, List.setIfInBounds_toArray, List.set_cons_zero, List.set_cons_succ]
    refine H.sk (i := 59) (d := 97) hS ?_
    try simp only [Act.put, List.setIfInBounds_toArray, List.set_cons_zero, List.set_cons_succ]
    refine H.sk (i := 60) (d := 98) hS ?_
    try simp only [Act.put, List.setIfInBounds_toArray, List.set_cons_zero, List.set_cons_succ]
    refine H.sk (i := 61) (d := 99) hS ?_
    try simp only [Act.put, List.setIfInBounds_toArray, List.set_cons_zero, List.set_cons_succ]
    refine H.tk (i := 62) (v := (Value.bool true)) (fun w _ => rfl) hS ?_
    try simp only [Act.put, List.setIfInBounds_toArray, List.set_cons_zero, List.set_cons_succ]
    refine H.tk (i := 63) (v := (Value.bool true)) (fun w _ => rfl) hS ?_
    try simp only [Act.put, List.setIfInBounds_toArray, List.set_cons_zero, List.set_cons_succ]
    refine H.tk (i := 64) (v := (Value.bool true)) (fun w _ => rfl) hS ?_
    try simp only [Act.put, List.setIfInBounds_toArray, List.set_cons_zero, List.set_cons_succ]
    refine wpAnyH_done (by kernel_rfl) ?_ _
    go_wp2
    go_ret
    exact ⟨rfl, hS.2.2⟩
  · rw [show outK d = (({ Up.zero with ae := y0, flags := y1, plen := y2, om := y3, iv := y4, seq := y6, metric := 256 * y8 + y9, hav := 1, bytes := yb, sl := yl } : Up), true, 0) from hX] at P1
    clear hX
    obtain ⟨q, hqq⟩ : ∃ q : Up, q = { Up.zero with ae := y0, flags := y1, plen := y2, om := y3, iv := y4, seq := y6, metric := 256 * y8 + y9, hav := 1, bytes := yb, sl := yl } := ⟨_, rfl⟩
    rw [← hqq] at P1
    have HQQ := Lib.hid hqq
    clear hqq
    go_enter Tryd.func6, Tryd.ntmps6
    go_wp2_with fail
    refine (P1.out _ HT.out).mono ?_
    intro r w1 hr
    obtain ⟨sa1, sc1, rfl, hl, hb⟩ := hr
    have HT := Lib.hid (HT.out.below hb)
    have HB := Lib.hid (bcall HB.out hb)
    go_upto_region 4 with (refine wpList_storeU (b := w1.heap.size) (m := Up.zero) (m' := { q with sa := sa1, sc := sc1 }) rfl _ _ rfl rfl rfl (Bk.Bk.new 37 w1 Up.zero.cells) ?_)
    change Code.wp _ _ _ _ ((w1.alloc (.cells Up.zero.cells 37)).setRow w1.heap.size (Up.cells { q with sa := sa1, sc := sc1 }))
    rw [World.setRow_alloc_new]
    have bel := balloc (Below.refl w1.heap.size w1) (.cells (Up.cells { q with sa := sa1, sc := sc1 }) 37)
    have I1 := Lib.hid (hl.row.below bel)
    have HT := Lib.hid (HT.out.below bel)
    have HB := Lib.hid (bcall HB.out bel)
    have X1 := Lib.hid (Bk.Bk.new 37 w1 (Up.cells { q with sa := sa1, sc := sc1 }))
    clear hl hb bel
    generalize w1.alloc (.cells (Up.cells { q with sa := sa1, sc := sc1 }) 37) = V1 at *
    generalize w1.heap.size = g1 at *
    have hqq := HQQ.out
    subst hqq
    have X1 := Lib.hid (show Bk 37 V1 g1 (Up.cells { Up.zero with ae := y0, flags := y1, plen := y2, om := y3, iv := y4, seq := y6, metric := 256 * y8 + y9, hav := 1, bytes := yb, sa := sa1, sl := yl, sc := sc1 }) from X1.out)
    have c2 := X1.out.cell 2 (.int .i64 y2) rfl
    have c3 := X1.out.cell 3 (.int .i64 y3) rfl
    have c0 := X1.out.cell 0 (.int .i64 y0) rfl
    go_upto_region 9 with fail
    clear c0 c2 c3
    refine wp_region_held_drew (S := UT w g1 { Up.zero with ae := y0, flags := y1, plen := y2, om := y3, iv := y4, seq := y6, metric := 256 * y8 + y9, hav := 1, bytes := yb, sa := sa1, sl := yl, sc := sc1 }) (by kernel_rfl) (UT.drew ⟨X1.out, HT.out, HB.out⟩) (fun hS => ?_)
    generalize V1.drew = X0 at *
    refine wpAnyH_ready (rs := [0]) (by kernel_rfl) (by simp) ?_
    refine AllReadyH.cons rfl (fun K hK => ?_) AllReadyH.nil
    go_simp
    refine (heldU (awake_any _ hS.2.1) hS).mono ?_
    rintro e w0 ⟨rfl, hS0⟩
    refine hK.out _ _ hS0 (fun _ => ?_)
    clear hK K hS
    have hS := hS0
    clear hS0
    refine H.tk (i := 1) (v := (.bool true)) (fun w _ => rfl) hS ?_
    try simp only [Act.put, List.setIfInBounds_toArray, List.set_cons_zero, List.set_cons_succ]
    refine H.tk (i := 2) (v := ?v2d) ?h2d hS ?_
    case h2d => (intro w hw; go_simp; first | done | (with_reducible rfl))
    try simp only [Act.put, List.setIfInBounds_toArray, List.set_cons_zero, List.set_cons_succ]
    refine H.tk (i := 3) (v := .bool true) ?h3d hS ?_
    case h3d => exact (fun w hw => by go_simp)
    try simp only [Act.put, List.setIfInBounds_toArray, List.set_cons_zero, List.set_cons_succ]
    refine H.tk (i := 4) (v := (.bool true)) (fun w _ => rfl) hS ?_
    try simp only [Act.put, List.setIfInBounds_toArray, List.set_cons_zero, List.set_cons_succ]
    refine H.tk (i := 5) (v := (.bool true)) (fun w _ => rfl) hS ?_
    try simp only [Act.put, List.setIfInBounds_toArray, List.set_cons_zero, List.set_cons_succ]
    refine H.tk (i := 6) (v := ?v6d) ?h6d hS ?_
    case h6d => (intro w hw; go_simp; first | done | (with_reducible rfl))
    try simp only [Act.put, List.setIfInBounds_toArray, List.set_cons_zero, List.set_cons_succ]
    refine H.tk (i := 7) (v := .string yb) ?h7d hS ?_
    case h7d => exact (fun w hw => by have c := hw.1.cell 8 (.string yb) rfl; go_simp)
    try simp only [Act.put, List.setIfInBounds_toArray, List.set_cons_zero, List.set_cons_succ]
    refine H.tk (i := 8) (v := .int .i64 (yb.size : Int)) ?h8d hS ?_
    case h8d => exact (fun w hw => by go_simp)
    try simp only [Act.put, List.setIfInBounds_toArray, List.set_cons_zero, List.set_cons_succ]
    refine H.tk (i := 9) (v := .int .i64 (n : Int)) ?h9d hS ?_
    case h9d => exact (fun w hw => by go_simp)
    try simp only [Act.put, List.setIfInBounds_toArray, List.set_cons_zero, List.set_cons_succ]
    refine H.tk (i := 10) (v := .bool true) ?h10d hS ?_
    case h10d => exact (fun w hw => by go_simp)
    try simp only [Act.put, List.setIfInBounds_toArray, List.set_cons_zero, List.set_cons_succ]
    refine H.tk (i := 11) (v := (.bool true)) (fun w _ => rfl) hS ?_
    try simp only [Act.put, List.setIfInBounds_toArray, List.set_cons_zero, List.set_cons_succ]
    refine H.tk (i := 12) (v := (.bool true)) (fun w _ => rfl) hS ?_
    try simp only [Act.put, List.setIfInBounds_toArray, List.set_cons_zero, List.set_cons_succ]
    refine H.tk (i := 13) (v := ?v13d) ?h13d hS ?_
    case h13d => (intro w hw; go_simp; first | done | (with_reducible rfl))
    try simp only [Act.put, List.setIfInBounds_toArray, List.set_cons_zero, List.set_cons_succ]
    refine H.tk (i := 14) (v := .int .i64 (d.size : Int)) ?h14d hS ?_
    case h14d => exact (fun w hw => by go_simp)
    try simp only [Act.put, List.setIfInBounds_toArray, List.set_cons_zero, List.set_cons_succ]
    refine H.tk (i := 15) (v := .int .i64 (n : Int)) ?h15d hS ?_
    case h15d => exact (fun w hw => by go_simp)
    try simp only [Act.put, List.setIfInBounds_toArray, List.set_cons_zero, List.set_cons_succ]
    refine H.tk (i := 16) (v := .int .i64 (10 + (n : Int))) ?h16d hS ?_
    case h16d => exact (fun w hw => by go_simp)
    try simp only [Act.put, List.setIfInBounds_toArray, List.set_cons_zero, List.set_cons_succ]
    refine H.tk (i := 17) (v := .bool true) ?h17d hS ?_
    case h17d => exact (fun w hw => by go_simp)
    try simp only [Act.put, List.setIfInBounds_toArray, List.set_cons_zero, List.set_cons_succ]
    refine H.tk (i := 18) (v := (.bool true)) (fun w _ => rfl) hS ?_
    try simp only [Act.put, List.setIfInBounds_toArray, List.set_cons_zero, List.set_cons_succ]
    refine H.tk (i := 19) (v := (.bool true)) (fun w _ => rfl) hS ?_
    try simp only [Act.put, List.setIfInBounds_toArray, List.set_cons_zero, List.set_cons_succ]
    refine H.tk (i := 20) (v := ?v20d) ?h20d hS ?_
    case h20d => (intro w hw; go_simp; first | done | (with_reducible rfl))
    try simp only [Act.put, List.setIfInBounds_toArray, List.set_cons_zero, List.set_cons_succ]
    refine H.tk (i := 21) (v := .int .i64 (n : Int)) ?h21d hS ?_
    case h21d => exact (fun w hw => by go_simp)
    try simp only [Act.put, List.setIfInBounds_toArray, List.set_cons_zero, List.set_cons_succ]
    refine H.tk (i := 22) (v := .int .i64 (10 + (n : Int))) ?h22d hS ?_
    case h22d => exact (fun w hw => by go_simp)
    try simp only [Act.put, List.setIfInBounds_toArray, List.set_cons_zero, List.set_cons_succ]
    refine H.tk (i := 23) (v := .string yb) ?h23d hS ?_
    case h23d => exact (fun w hw => by go_simp)
    try simp only [Act.put, List.setIfInBounds_toArray, List.set_cons_zero, List.set_cons_succ]
    refine H.tk (i := 24) (v := ?v24d) ?h24d hS ?_
    case h24d => (intro w hw; go_simp; first | done | (with_reducible rfl))
    try simp only [Act.put, List.setIfInBounds_toArray, List.set_cons_zero, List.set_cons_succ]
    refine H.tk (i := 25) (v := .string yb) ?h25d hS ?_
    case h25d => exact (fun w hw => by have c := hw.1.cell 8 (.string yb) rfl; go_simp)
    try simp only [Act.put, List.setIfInBounds_toArray, List.set_cons_zero, List.set_cons_succ]
    refine H.tk (i := 26) (v := .bool true) ?h26d hS ?_
    case h26d => exact (fun w hw => by go_simp)
    try simp only [Act.put, List.setIfInBounds_toArray, List.set_cons_zero, List.set_cons_succ]
    refine H.tk (i := 27) (v := (.bool true)) (fun w _ => rfl) hS ?_
    try simp only [Act.put, List.setIfInBounds_toArray, List.set_cons_zero, List.set_cons_succ]
    refine H.tk (i := 28) (v := (.bool true)) (fun w _ => rfl) hS ?_
    try simp only [Act.put, List.setIfInBounds_toArray, List.set_cons_zero, List.set_cons_succ]
    refine H.tk (i := 29) (v := ?v29d) ?h29d hS ?_
    case h29d => (intro w hw; go_simp; first | done | (with_reducible rfl))
    try simp only [Act.put, List.setIfInBounds_toArray, List.set_cons_zero, List.set_cons_succ]
    refine H.tk (i := 30) (v := .int .i64 y0) ?h30d hS ?_
    case h30d => exact (fun w hw => by have c := hw.1.cell 0 (.int .i64 y0) rfl; go_simp)
    try simp only [Act.put, List.setIfInBounds_toArray, List.set_cons_zero, List.set_cons_succ]
    refine H.tk (i := 31) (v := ?v31d) ?h31d hS ?_
    case h31d => (intro w hw; go_simp; first | done | (with_reducible rfl))
    try simp only [Act.put, List.setIfInBounds_toArray, List.set_cons_zero, List.set_cons_succ]
    refine H.tk (i := 32) (v := .int .u8 y0) ?h32d hS ?_
    case h32d => exact (fun w hw => by go_simp)
    try simp only [Act.put, List.setIfInBounds_toArray, List.set_cons_zero, List.set_cons_succ]
    refine H.tk (i := 33) (v := .int .i64 y0) ?h33d hS ?_
    case h33d => exact (fun w hw => by go_simp)
    try simp only [Act.put, List.setIfInBounds_toArray, List.set_cons_zero, List.set_cons_succ]
    refine H.tk (i := 34) (v := .bool true) ?h34d hS ?_
    case h34d => exact (fun w hw => by go_simp)
    try simp only [Act.put, List.setIfInBounds_toArray, List.set_cons_zero, List.set_cons_succ]
    refine H.tk (i := 35) (v := (.bool true)) (fun w _ => rfl) hS ?_
    try simp only [Act.put, List.setIfInBounds_toArray, List.set_cons_zero, List.set_cons_succ]
    refine H.tk (i := 36) (v := (.bool true)) (fun w _ => rfl) hS ?_
    try simp only [Act.put, List.setIfInBounds_toArray, List.set_cons_zero, List.set_cons_succ]
    refine H.tk (i := 37) (v := ?v37d) ?h37d hS ?_
    case h37d => (intro w hw; go_simp; first | done | (with_reducible rfl))
    try simp only [Act.put, List.setIfInBounds_toArray, List.set_cons_zero, List.set_cons_succ]
    refine H.tk (i := 38) (v := .int .i64 y0) ?h38d hS ?_
    case h38d => exact (fun w hw => by have c := hw.1.cell 0 (.int .i64 y0) rfl; go_simp)
    try simp only [Act.put, List.setIfInBounds_toArray, List.set_cons_zero, List.set_cons_succ]
    refine H.tk (i := 39) (v := .bool true) ?h39d hS ?_
    case h39d => exact (fun w hw => by go_simp)
    try simp only [Act.put, List.setIfInBounds_toArray, List.set_cons_zero, List.set_cons_succ]
    refine H.tk (i := 40) (v := (.bool true)) (fun w _ => rfl) hS ?_
    try simp only [Act.put, List.setIfInBounds_toArray, List.set_cons_zero, List.set_cons_succ]
    refine H.tk (i := 41) (v := (.bool true)) (fun w _ => rfl) hS ?_
    try simp only [Act.put, List.setIfInBounds_toArray, List.set_cons_zero, List.set_cons_succ]
    refine H.tk (i := 42) (v := ?v42d) ?h42d hS ?_
    case h42d => (intro w hw; go_simp; first | done | (with_reducible rfl))
    try simp only [Act.put, List.setIfInBounds_toArray, List.set_cons_zero, List.set_cons_succ]
    refine H.tk (i := 43) (v := .int .i64 (256 * y8 + y9)) ?h43d hS ?_
    case h43d => exact (fun w hw => by have c := hw.1.cell 6 (.int .i64 (256 * y8 + y9)) rfl; go_simp)
    try simp only [Act.put, List.setIfInBounds_toArray, List.set_cons_zero, List.set_cons_succ]
    refine H.tk (i := 44) (v := ?v44d) ?h44d hS ?_
    case h44d => (intro w hw; go_simp; first | done | (with_reducible rfl))
    try simp only [Act.put, List.setIfInBounds_toArray, List.set_cons_zero, List.set_cons_succ]
    refine H.tk (i := 45) (v := .int .u8 y8) ?h45d hS ?_
    case h45d => exact (fun w hw => by go_simp)
    try simp only [Act.put, List.setIfInBounds_toArray, List.set_cons_zero, List.set_cons_succ]
    refine H.tk (i := 46) (v := .int .i64 y8) ?h46d hS ?_
    case h46d => exact (fun w hw => by go_simp)
    try simp only [Act.put, List.setIfInBounds_toArray, List.set_cons_zero, List.set_cons_succ]
    refine H.tk (i := 47) (v := .int .i64 (256 * y8)) ?h47d hS ?_
    case h47d => exact (fun w hw => by go_simp)
    try simp only [Act.put, List.setIfInBounds_toArray, List.set_cons_zero, List.set_cons_succ]
    refine H.tk (i := 48) (v := ?v48d) ?h48d hS ?_
    case h48d => (intro w hw; go_simp; first | done | (with_reducible rfl))
    try simp only [Act.put, List.setIfInBounds_toArray, List.set_cons_zero, List.set_cons_succ]
    refine H.tk (i := 49) (v := .int .u8 y9) ?h49d hS ?_
    case h49d => exact (fun w hw => by go_simp)
    try simp only [Act.put, List.setIfInBounds_toArray, List.set_cons_zero, List.set_cons_succ]
    refine H.tk (i := 50) (v := .int .i64 y9) ?h50d hS ?_
    case h50d => exact (fun w hw => by go_simp)
    try simp only [Act.put, List.setIfInBounds_toArray, List.set_cons_zero, List.set_cons_succ]
    refine H.tk (i := 51) (v := .int .i64 (256 * y8 + y9)) ?h51d hS ?_
    case h51d => exact (fun w hw => by go_simp)
    try simp only [Act.put, List.setIfInBounds_toArray, List.set_cons_zero, List.set_cons_succ]
    refine H.tk (i := 52) (v := .bool true) ?h52d hS ?_
    case h52d => exact (fun w hw => by go_simp)
    try simp only [Act.put, List.setIfInBounds_toArray, List.set_cons_zero, List.set_cons_succ]
    refine H.tk (i := 53) (v := (.bool true)) (fun w _ => rfl) hS ?_
    try simp only [Act.put, List.setIfInBounds_toArray, List.set_cons_zero, List.set_cons_succ]
    refine H.tk (i := 54) (v := (.bool true)) (fun w _ => rfl) hS ?_
    try simp only [Act.put, List.setIfInBounds_toArray, List.set_cons_zero, List.set_cons_succ]
    refine H.tk (i := 55) (v := ?v55d) ?h55d hS ?_
    case h55d => (intro w hw; go_simp; first | done | (with_reducible rfl))
    try simp only [Act.put, List.setIfInBounds_toArray, List.set_cons_zero, List.set_cons_succ]
    refine H.tk (i := 56) (v := .int .i64 1) ?h56d hS ?_
    case h56d => exact (fun w hw => by have c := hw.1.cell 7 (.int .i64 1) rfl; go_simp)
    try simp only [Act.put, List.setIfInBounds_toArray, List.set_cons_zero, List.set_cons_succ]
    refine H.tk (i := 57) (v := .bool false) ?h57d hS ?_
    case h57d => exact (fun w hw => by go_simp)
    try simp only [Act.put, List.setIfInBounds_toArray, List.set_cons_zero, List.set_cons_succ]
    refine H.tk (i := 58) (v := (.bool false)) (fun w _ => rfl) hS ?_
    try simp only [Act.put, List.setIfInBounds_toArray, List.set_cons_zero, List.set_cons_succ]
    refine H.tk (i := 59) (v := ?v59d) ?h59d hS ?_
    case h59d => (intro w hw; go_simp; first | done | (with_reducible rfl))
    try simp only [Act.put, List.setIfInBounds_toArray, List.set_cons_zero, List.set_cons_succ]
    refine H.tk (i := 60) (v := .int .i64 1) ?h60d hS ?_
    case h60d => exact (fun w hw => by have c := hw.1.cell 7 (.int .i64 1) rfl; go_simp)
    try simp only [Act.put, List.setIfInBounds_toArray, List.set_cons_zero, List.set_cons_succ]
    refine H.tk (i := 61) (v := .bool true) ?h61d hS ?_
    case h61d => exact (fun w hw => by go_simp)
    try simp only [Act.put, List.setIfInBounds_toArray, List.set_cons_zero, List.set_cons_succ]
    refine H.tk (i := 62) (v := (.bool true)) (fun w _ => rfl) hS ?_
    try simp only [Act.put, List.setIfInBounds_toArray, List.set_cons_zero, List.set_cons_succ]
    refine H.tk (i := 63) (v := (.bool true)) (fun w _ => rfl) hS ?_
    try simp only [Act.put, List.setIfInBounds_toArray, List.set_cons_zero, List.set_cons_succ]
    refine H.tk (i := 64) (v := (.bool true)) (fun w _ => rfl) hS ?_
    try simp only [Act.put, List.setIfInBounds_toArray, List.set_cons_zero, List.set_cons_succ]
    refine wpAnyH_done (by kernel_rfl) ?_ _
    go_wp2
    go_ret
    exact ⟨rfl, hS.2.2⟩

theorem own : ownKnob Tryd.prog.godebug = none := by kernel_rfl

set_option maxRecDepth 100000 in
theorem lifted (os : Os) (started : os.Started) (H : Type) (enc : TypeId × Value → H) :
    ReturnsInHanded {} Tryd.checked os 6 .any (fun w args => (Rows.routeTakesSpec.pre enc Tryd.prog Tryd.f6 Rows.routeTakesRow.domain false w args ∧ laidMetH Tryd.prog Rows.routeTakesRow.laid w) ∧ sizedMet enc Tryd.prog Tryd.f6 (OpenSpec.ofChange Rows.routeTakesSpec) false w args)
      (Rows.routeTakesSpec.post enc Tryd.prog Tryd.f6 false true false false) := by
  refine returnsInHanded_of_change_and (C := Tryd.checked) (X := fun w _ => laidMetH Tryd.prog Rows.routeTakesRow.laid w) (fun _ _ _ hh h => h.of_heap hh) own started (by kernel_rfl) Tryd.func6
    (ChangeSpec.witness_shaped (enc := enc) (C := Tryd.checked) (os := os) (X := fun w _ => laidMetH Tryd.prog Rows.routeTakesRow.laid w) false (World.laidAll Tryd.prog os Rows.routeTakesRow.laid) #[.string ByteArray.empty] 8 (World.laidAll_os _ _ _)
      (World.shaped_of_ZipB (by kernel_rfl) (by kernel_rfl)) (by kernel_rfl) (by kernel_rfl) (by kernel_rfl)
      (by rw [MakeChecks.laidMetH_plain _ _ _ (by kernel_rfl)]; exact laidMet_laidAll _ (by kernel_rfl) (by kernel_rfl))) ?_
  intro W base args ds gs before hval0 hW _ _ hL0 _
  have hMet := of_laid hL0
  have hval : ∀ (j : Nat) t v, Tryd.f6.params[j]? = some t → args[j]? = some v → Value.okWide Tryd.prog W .any base t v := hval0
  have hW' := hW
  have hlt := fun x hx => hW'.lt x hx
  obtain ⟨p, q, hA0, hV, rfl, hfz, hnd⟩ := hW
  have hA : DataW.TrodAll enc Tryd.prog W 0 (fun _ => true) true Tryd.f6.params.toList args.toList ds p := hA0
  rw [Tryd.params6] at hA hval
  obtain ⟨v0, vs0, d0, ds0, p0, q0, hargs, rfl, rfl, h0, r0⟩ := trodAll_cons hA
  obtain ⟨rfl, rfl, rfl⟩ := trodAll_nil r0
  obtain rfl : args = #[v0] := by cases args; simp_all
  obtain ⟨rfl, rfl⟩ := trodVars_none hV
  have k0 := h0
  obtain ⟨d, rfl, rfl, rfl, hz⟩ := open_string Tryd.underlying9 (hval 0 9 v0 rfl rfl) k0
  clear hA0 hval0
  simp only [List.append_nil] at hW' hlt
  refine (walk d W hz hMet).mono fun e W' ⟨he, hg⟩ => ?_
  subst he
  exact ⟨_, rfl, _, _, _, [], _, [], hW', trodAll_mk1 (shut_bool Tryd.underlying4 _), (trodAll_cons_mk (again (by kernel_rfl) (of_decide_eq_true (by kernel_rfl)) h0 hg fun x hx => hlt x (by first | exact absurd hx (by simp) | simp [hx])) trodAll_mk0), rfl, hg.frame _, fun h => by cases h⟩

theorem over : Rows.RouteTakesSaid :=
  OpenClaim.holds_of_wide 6 Tryd.f6 rfl rfl rfl rfl rfl rfl rfl ⟨rfl, rfl, rfl, rfl, rfl⟩ rfl rfl rfl rfl rfl (by kernel_rfl) Tryd.func6 (by kernel_rfl)
    (of_decide_eq_true (by kernel_rfl)) (by unfold Func.isWrapper; first | (rw [if_pos (by decide +kernel)]; kernel_rfl) | (rw [if_neg (by decide +kernel)]; exact ⟨rfl, rfl⟩))
    (fun os started H enc _ => lifted os started H enc)

theorem proved : Rows.RouteTakesCardSaid :=
  Claim7.holds_tied_plain_at .later [] _ true _ _
    over (fun _ h => by cases h) (by kernel_rfl) (fun _ h => by cases h) routeTakes_row_tie rfl ⟨rfl, rfl⟩ (by kernel_rfl) rfl
    (fun f fn hf hfn => by
      obtain rfl : f = 6 := Option.some.inj ((show Tryd.prog.funcNamed "roadbook/roadbooklaw21.RouteTakes" = some 6 by kernel_rfl).symm.trans hf) |>.symm
      obtain rfl : fn = Tryd.f6 := (Option.some.inj (Tryd.func6.symm.trans hfn)).symm
      exact ⟨by kernel_rfl, fun j t ht => by
        rw [Tryd.params6] at ht
        have hm : t ∈ [9] := by simpa using Array.mem_of_getElem? ht
        have hall : ([9].all fun u => !Tryd.prog.wantsStandIn u) = true := by kernel_rfl
        exact (show Tryd.prog.wantsStandIn t = false by simpa using List.all_eq_true.1 hall t hm)⟩)
    (by kernel_rfl)
#print axioms proved
end Go.Proofs.YtkhdllhlhpkekaaDoor.routeTakes
