/-
  Parse: the routes of bytes, or the first error and its place. Condition: at most 2^20 bytes.
-/
import Derived.Test.YtfaobpmbiocafaaRr
namespace Go.Proofs.Ytfaobpmbiocafaa.Pa
open Go.ChangeShapes Go.WideShapes Go.ChangeAt Go.RowKit
open Go.Proofs.Ytfaobpmbiocafaa.Ms
open Go.Proofs.Ytfaobpmbiocafaa.Box
open Go.Proofs.Ytfaobpmbiocafaa.Rp
open Go.Proofs.Ytfaobpmbiocafaa.Ps
open Go.Proofs.Ytfaobpmbiocafaa.Hd
open Go.Proofs.Ytfaobpmbiocafaa.Rr
open Go.Proofs.Ytfaobpmbiocafaa.All
set_option linter.unusedVariables false
set_option maxRecDepth 100000

theorem Ans.trans {p : List M × Int × Int} {w w1 w' : World} {e : Ending} (hb : Below w.heap.size w w1) (h : Ans p w1 e w') : Ans p w e w' := by
  obtain ⟨a, c, h1, h2, h3⟩ := h
  exact ⟨a, c, h1, h2, hb.trans (h3.mono hb.size)⟩

theorem Ans.of {p : List M × Int × Int} {w w' : World} {a : Option Addr} {c : Nat} {l : List M} {y1 y2 : Int} (h : p = (l, y1, y2)) (hl : MRow w' a l) (hb : Below w.heap.size w w') : Ans p w (.returned (.tuple #[.slice a l.length c, .int .i64 y1, .int .i64 y2])) w' := by
  subst h
  exact ⟨a, c, rfl, hl, hb⟩

set_option maxHeartbeats 3200000 in
theorem parse_any (b : ByteArray) (w : World) (hs : b.size ≤ 1048576) : Calls Try.prog 8 #[.string b] w (Ans (out b) w) := by
  have HO := Lib.hid (show out b = if (hdAt b).2 ≠ 0 then ([], hdAt b) else if (cnAt b).2 ≠ 0 then ([], cnAt b) else if atN b = b.size then ([], (b.size : Int), 8) else ents (hdM b) b (atN b) (cntN b) (decide (atN b + 20 = b.size)) from rfl)
  have P1 := Lib.hid (fun W => head_hd b W hs)
  by_cases h1 : (hdAt b).2 = 0
  rotate_left
  · have HZ : Hid (out b = ([], (hdAt b).1, (hdAt b).2)) := Lib.hid (by rw [HO.out, if_pos h1])
    have e1 : ((hdAt b).2 == 0) = false := by simpa using h1
    have e2 : ((hdAt b).2 != 0) = true := by rw [bne, e1]; rfl
    clear HO h1
    generalize (hdAt b).2 = x at *
    generalize (hdAt b).1 = y at *
    go_enter Try.func8, Try.ntmps8
    go_wp2_with fail
    refine (P1.out _).mono ?_
    rintro e w1 ⟨rfl, rfl⟩
    go_wp2
    go_ret3
    exact Ans.no HZ.out (Below.refl _ _)
  have HO := Lib.hid (show out b = if (cnAt b).2 ≠ 0 then ([], cnAt b) else if atN b = b.size then ([], (b.size : Int), 8) else ents (hdM b) b (atN b) (cntN b) (decide (atN b + 20 = b.size)) by rw [HO.out, if_neg (by simpa using h1)])
  obtain ⟨h4, _, _, _⟩ := hd_ok h1
  have P2 := Lib.hid (fun W => count_hd b W hs h4)
  rw [h1] at P1
  clear h1
  by_cases h2 : (cnAt b).2 = 0
  rotate_left
  · have HZ : Hid (out b = ([], (cnAt b).1, (cnAt b).2)) := Lib.hid (by rw [HO.out, if_pos h2])
    have e1 : ((cnAt b).2 == 0) = false := by simpa using h2
    have e2 : ((cnAt b).2 != 0) = true := by rw [bne, e1]; rfl
    clear HO h2
    generalize (cnAt b).2 = x at *
    generalize (cnAt b).1 = y at *
    generalize (hdAt b).1 = z at *
    go_enter Try.func8, Try.ntmps8
    go_wp2_with fail
    refine (P1.out _).mono ?_
    rintro e w1 ⟨rfl, rfl⟩
    go_wp2_with fail
    refine (P2.out _).mono ?_
    rintro e w1 ⟨rfl, rfl⟩
    go_wp2
    go_ret3
    exact Ans.no HZ.out (Below.refl _ _)
  have HO := Lib.hid (show out b = if atN b = b.size then ([], (b.size : Int), 8) else ents (hdM b) b (atN b) (cntN b) (decide (atN b + 20 = b.size)) by rw [HO.out, if_neg (by simpa using h2)])
  obtain ⟨n, n1, n2, hn⟩ := cn_ok h2 h4
  have P3 := Lib.hid (fun W => read_hd b W hs (by omega))
  rw [h2] at P2
  clear h2
  have ho := atN_or b
  have P4 := Lib.hid (fun (hq : atN b ≤ b.size) W => routes_rr b (hdM b) (atN b) (cntN b) W rfl rfl rfl rfl hs (by unfold cntN; omega) (by unfold cntN; omega))
  generalize (cnAt b).1 = y at *
  generalize (hdAt b).1 = z at *
  generalize hdM b = h at *
  generalize cntN b = cn at *
  generalize hat : atN b = at0 at *
  clear hat
  by_cases h3 : at0 = b.size
  · have HZ := Lib.hid (show out b = ([], (at0 : Int), 8) by rw [HO.out, if_pos h3, h3])
    have e1 : ((at0 : Int) == (b.size : Int)) = true := by rw [beq_iff_eq]; omega
    clear HO h3 P4 hn ho
    go_enter Try.func8, Try.ntmps8
    go_wp2_with fail
    refine (P1.out _).mono ?_
    rintro e w1 ⟨rfl, rfl⟩
    go_wp2_with fail
    refine (P2.out _).mono ?_
    rintro e w1 ⟨rfl, rfl⟩
    go_wp2_with fail
    refine (P3.out _).mono ?_
    rintro e w1 ⟨rfl, hb⟩
    go_wp2_with (first | (refine wpList_storeM (b := w1.heap.size) (m := M.zero) (m' := h) rfl _ _ rfl rfl rfl (heap_alloc_new _ _) ?_))
    go_ret3
    change Ans _ _ _ ((w1.alloc (.cells M.zero.cells 34)).setRow w1.heap.size h.cells)
    rw [World.setRow_alloc_new]
    exact Ans.no HZ.out (balloc hb _)
  · have HZ := Lib.hid (show out b = ents h b at0 cn (decide (at0 + 20 = b.size)) by rw [HO.out, if_neg h3])
    have e1 : ((at0 : Int) == (b.size : Int)) = false := by rw [beq_eq_false_iff_ne]; omega
    have P4 := Lib.hid (P4.out (by omega))
    clear HO h3 hn ho
    generalize ents h b at0 cn (decide (at0 + 20 = b.size)) = p at *
    go_enter Try.func8, Try.ntmps8
    go_wp2_with fail
    refine (P1.out _).mono ?_
    rintro e w1 ⟨rfl, rfl⟩
    go_wp2_with fail
    refine (P2.out _).mono ?_
    rintro e w1 ⟨rfl, rfl⟩
    go_wp2_with fail
    refine (P3.out _).mono ?_
    rintro e w1 ⟨rfl, hb⟩
    go_upto_region 8 with (first | (refine wpList_storeM (b := w1.heap.size) (m := M.zero) (m' := h) rfl _ _ rfl rfl rfl (heap_alloc_new _ _) ?_))
    change Code.wp _ _ _ _ ((w1.alloc (.cells M.zero.cells 34)).setRow w1.heap.size h.cells)
    rw [World.setRow_alloc_new]
    have B1 := Lib.hid (Bx.new w1 h)
    replace hb := balloc hb (.cells h.cells 34)
    generalize w1.alloc _ = W2 at *
    generalize w1.heap.size = g at *
    go_wp2_with (first | (refine wpList_loadM (b := g) (m := h) rfl _ rfl rfl B1.out ?_))
    refine (P4.out _).mono ?_
    rintro e w3 ⟨a, c, rfl, hm, hb3⟩
    have HM := Lib.hid hm
    have HB := Lib.hid (bcall hb hb3)
    clear hm hb hb3 B1
    obtain ⟨l, y1, y2⟩ := p
    go_wp2
    go_ret3
    exact Ans.of HZ.out HM.out HB.out
end Go.Proofs.Ytfaobpmbiocafaa.Pa
