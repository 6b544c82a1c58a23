/-
  The program's calls on what stands ahead of the entries, and on the reader: an entry of a next hop taken, one of a route, one. Conditions: at most 2^20 bytes; at most 100000 routes were taken.
-/
import Derived.Test.YthfdcmijciclkaaSt
namespace Go.Proofs.Ythfdcmijciclkaa.Tk
open Go.ChangeShapes Go.WideShapes Go.ChangeAt Go.RowKit
open Go.Proofs.Ythfdcmijciclkaa.Ms
open Go.Proofs.Ythfdcmijciclkaa.Box
open Go.Proofs.Ythfdcmijciclkaa.Rp
open Go.Proofs.Ythfdcmijciclkaa.Rt
open Go.Proofs.Ythfdcmijciclkaa.Hs
open Go.Proofs.Ythfdcmijciclkaa.Hx
open Go.Proofs.Ythfdcmijciclkaa.Ap
open Go.Proofs.Ythfdcmijciclkaa.St
open Go.Proofs.Ythfdcmijciclkaa.Bk (E Bk shE results_one loadVarK wpList_loadK wpList_storeK run_loadK)
open Go.Proofs.Ythfdcmijciclkaa.Or (st_yes)
set_option linter.unusedVariables false
set_option maxRecDepth 100000

theorem pair_eq {a c : Int} {p : Int × Int} (h : p = (a, c)) : Ending.returned (.tuple #[.int .i64 a, .int .i64 c]) = .returned (.tuple #[.int .i64 p.1, .int .i64 p.2]) := by rw [h]
theorem int_eq {k : IntKind} {a b : Int} (h : a = b) : Ending.returned (.int k a) = .returned (.int k b) := by rw [h]
theorem idx (b : ByteArray) (k : Nat) (i : Int) (hi : i = k) (h : k < b.size) (W : World) : (Instr.index 9 (.string b) (.int .i64 i)).run Try.prog W = .ok (.int .u8 (bt b k)) W := by
  subst hi
  rw [run_index_string W 9 b .i64 (k : Int) Try.underlying9, dif_pos ⟨by omega, by omega⟩, ← bt_eq b k h]
  rfl

set_option maxHeartbeats 3200000 in
theorem head_any (b : ByteArray) (w : World) (hs : b.size ≤ 1048576) : Calls Try.prog 17 #[.string b] w fun r w' => r = .returned (.tuple #[.int .i64 (hdAt b).1, .int .i64 (hdAt b).2]) ∧ w = w' := by
  have HA := Lib.hid (show hdAt b = if 65535 < b.size then (65535, 10) else if b.size < 4 then ((b.size : Int), 2) else if isCmd (bt b 0) = false then (0, 4) else if (bt b 1 == 1) = false then (1, 4) else if Oct.zeroB (b.extract 2 4).data.toList = false then (2, 5) else if (b.size - 4) % 20 ≠ 0 then ((b.size : Int), 2) else (0, 0) from rfl)
  by_cases h0 : 65535 < b.size
  · have HZ := Lib.hid (show hdAt b = (65535, 10) by rw [HA.out, if_pos h0])
    clear HA
    go_enter Try.func17, Try.ntmps17
    go_wp2
    go_ret2
    exact ⟨pair_eq HZ.out, rfl⟩
  by_cases h1 : b.size < 4
  · have HZ := Lib.hid (show hdAt b = ((b.size : Int), 2) by rw [HA.out, if_neg h0, if_pos h1])
    clear HA
    go_enter Try.func17, Try.ntmps17
    go_wp2
    go_ret2
    exact ⟨pair_eq HZ.out, rfl⟩
  have P1 := Lib.hid (fun W => cmd_any (bt b 0) W)
  have j0 := idx b 0 0 rfl (by omega)
  have j1 := idx b 1 1 rfl (by omega)
  have v0 := conv8 (bt b 0) (bt_nn _ _) (bt_lt _ _)
  have sl := Rte.sl_m b 2 4 2 4 rfl rfl (by omega) (by omega)
  have P2 := Lib.hid (fun W => Oct.zero_any (b.extract 2 4) W (by unfold maxLen; simp; omega))
  have HA := Lib.hid (show hdAt b = if isCmd (bt b 0) = false then (0, 4) else if (bt b 1 == 1) = false then (1, 4) else if Oct.zeroB (b.extract 2 4).data.toList = false then (2, 5) else if (b.size - 4) % 20 ≠ 0 then ((b.size : Int), 2) else (0, 0) by rw [HA.out, if_neg h0, if_neg h1])
  have k1 := bt_nn b 1
  have k2 := bt_lt b 1
  generalize bt b 0 = c0 at *
  generalize bt b 1 = c1 at *
  generalize Oct.zeroB (b.extract 2 4).data.toList = x3 at *
  generalize b.extract 2 4 = s2 at *
  generalize isCmd c0 = x1 at *
  cases x1
  · have HZ := Lib.hid (show hdAt b = (0, 4) by rw [HA.out]; rfl)
    clear HA
    go_enter Try.func17, Try.ntmps17
    go_wp2_with fail
    refine (P1.out _).mono ?_
    rintro e w1 ⟨rfl, rfl⟩
    go_wp2
    go_ret2
    exact ⟨pair_eq HZ.out, rfl⟩
  by_cases q1 : c1 = 1
  rotate_left
  · have e1 : (c1 == 1) = false := by simpa using q1
    have e2 : (c1 != 1) = true := by rw [bne, e1]; rfl
    have HZ := Lib.hid (show hdAt b = (1, 4) by rw [HA.out, e1]; rfl)
    clear HA q1
    go_enter Try.func17, Try.ntmps17
    go_wp2_with fail
    refine (P1.out _).mono ?_
    rintro e w1 ⟨rfl, rfl⟩
    go_wp2
    go_ret2
    exact ⟨pair_eq HZ.out, rfl⟩
  subst q1
  cases x3
  · have HZ := Lib.hid (show hdAt b = (2, 5) by rw [HA.out]; rfl)
    clear HA
    go_enter Try.func17, Try.ntmps17
    go_wp2_with fail
    refine (P1.out _).mono ?_
    rintro e w1 ⟨rfl, rfl⟩
    go_wp2_with fail
    refine (P2.out _).mono ?_
    rintro e w1 ⟨rfl, rfl⟩
    go_wp2
    go_ret2
    exact ⟨pair_eq HZ.out, rfl⟩
  have HA := Lib.hid (show hdAt b = if (b.size - 4) % 20 ≠ 0 then ((b.size : Int), 2) else (0, 0) from HA.out)
  by_cases h5 : (b.size - 4) % 20 ≠ 0
  · have HZ := Lib.hid (show hdAt b = ((b.size : Int), 2) by rw [HA.out, if_pos h5])
    have e1 : (((b.size : Int) - 4) % 20 == 0) = false := by rw [beq_eq_false_iff_ne]; omega
    have e2 : (((b.size : Int) - 4) % 20 != 0) = true := by rw [bne, e1]; rfl
    clear HA h5
    go_enter Try.func17, Try.ntmps17
    go_wp2_with fail
    refine (P1.out _).mono ?_
    rintro e w1 ⟨rfl, rfl⟩
    go_wp2_with fail
    refine (P2.out _).mono ?_
    rintro e w1 ⟨rfl, rfl⟩
    go_wp2
    go_ret2
    exact ⟨pair_eq HZ.out, rfl⟩
  have HZ := Lib.hid (show hdAt b = (0, 0) by rw [HA.out, if_neg h5])
  have e1 : (((b.size : Int) - 4) % 20 == 0) = true := by rw [beq_iff_eq]; omega
  have e2 : (((b.size : Int) - 4) % 20 != 0) = false := by rw [bne, e1]; rfl
  clear HA h5
  go_enter Try.func17, Try.ntmps17
  go_wp2_with fail
  refine (P1.out _).mono ?_
  rintro e w1 ⟨rfl, rfl⟩
  go_wp2_with fail
  refine (P2.out _).mono ?_
  rintro e w1 ⟨rfl, rfl⟩
  go_wp2
  go_ret2
  exact ⟨pair_eq HZ.out, rfl⟩

/-- The call's own reader in block b: the Cmd, the next hop, the routes; what is new begins at B. -/
def Rdr (B b : Nat) (c : Int) (nx : ByteArray) (l : List M) (w : World) : Prop := B ≤ b ∧ ∃ v, Bk 43 w b #[.int .i64 c, .string nx, v] ∧ Lst B w v l
theorem neR : (43 : TypeId) ≠ 34 := by decide
theorem neE : (45 : TypeId) ≠ 34 := by decide
theorem Rdr.below {B b : Nat} {c : Int} {nx : ByteArray} {l : List M} {w w' : World} (h : Rdr B b c nx l w) (hb : Below w.heap.size w w') : Rdr B b c nx l w' := by
  obtain ⟨h1, v, h2, h3⟩ := h
  exact ⟨h1, v, h2.below hb, h3.below hb⟩
theorem Rdr.lt {B b : Nat} {c : Int} {nx : ByteArray} {l : List M} {w : World} (h : Rdr B b c nx l w) : b < w.heap.size := by
  obtain ⟨h1, v, h2, h3⟩ := h
  exact h2.lt
/-- The next hop, the routes behind an entry. -/
def hopN (nx : ByteArray) (e : E) : ByteArray := if ckHop e = 0 then nx1 e else nx
theorem hopN_yes (nx : ByteArray) (e : E) (h : ckHop e = 0) : hopN nx e = nx1 e := if_pos h
theorem hopN_no (nx : ByteArray) (e : E) (h : ckHop e ≠ 0) : hopN nx e = nx := if_neg h
def rteL (c : Int) (nx : ByteArray) (e : E) (l : List M) : List M := if ckRte e = 0 then l ++ [routeM c nx e] else l
theorem rteL_yes (c : Int) (nx : ByteArray) (e : E) (l : List M) (h : ckRte e = 0) : rteL c nx e l = l ++ [routeM c nx e] := if_pos h
theorem rteL_no (c : Int) (nx : ByteArray) (e : E) (l : List M) (h : ckRte e ≠ 0) : rteL c nx e l = l := if_neg h
structure Ec (w : World) (b : Nat) (e : E) : Prop where
  c0 : w.cell? ⟨b, 0, none⟩ = some (.int .i64 e.fam)
  c1 : w.cell? ⟨b, 1, none⟩ = some (.int .i64 e.tag)
  c2 : w.cell? ⟨b, 2, none⟩ = some (.string e.addr)
  c5 : w.cell? ⟨b, 5, none⟩ = some (.int .i64 e.met)
theorem ec {w : World} {b : Nat} {e : E} (h : Bk 45 w b e.cells) : Ec w b e := by
  constructor <;> exact h.cell _ _ rfl
theorem boxE (w : World) (e : E) : Bk 45 (w.alloc (.cells e.cells 45)) w.heap.size e.cells ∧ Below w.heap.size w (w.alloc (.cells e.cells 45)) := ⟨Bk.Bk.new _ w _, balloc (Below.refl _ w) _⟩

set_option maxHeartbeats 3200000 in
theorem hop_any (B b : Nat) (c : Int) (nx : ByteArray) (l : List M) (e : E) (w : World) (h : Rdr B b c nx l w) (hB : B ≤ w.heap.size) :
    Calls Try.prog 41 #[.pointer (some ⟨b, 0, none⟩), .agg e.cells] w fun r w' => r = .returned (.int .i64 (ckHop e)) ∧ Rdr B b c (hopN nx e) l w' ∧ Below B w w' := by
  have P1 := Lib.hid (fun W => link_any e.addr W)
  obtain ⟨b0, bel⟩ := boxE w e
  have hr := h.below bel
  have hlt := h.lt
  replace bel := bel.mono hB
  have HT := Lib.hid (fun h => hopN_yes nx e h)
  have HF := Lib.hid (fun h => hopN_no nx e h)
  have HA := Lib.hid (show ckHop e = if e.tag == 0 && e.fam == 0 then 0 else 5 from rfl)
  have HN := Lib.hid (show nx1 e = if link e.addr then e.addr else ⟨#[0, 0, 0, 0, 0, 0, 0, 0, 0, 0, 0, 0, 0, 0, 0, 0]⟩ from rfl)
  clear h hB
  go_enter Try.func41, Try.ntmps41
  go_upto_region 1 with fail
  generalize w.alloc (.cells e.cells 45) = V at *
  generalize w.heap.size = g at *
  have c0 := (ec b0).c0
  have c1 := (ec b0).c1
  have B0 := Lib.hid b0
  have R0 := Lib.hid hr
  clear b0 hr
  generalize h1 : (e.tag == 0) = x1 at *
  generalize h2 : (e.fam == 0) = x2 at *
  have n1 : (e.tag != 0) = !x1 := by rw [bne, h1]
  have n2 : (e.fam != 0) = !x2 := by rw [bne, h2]
  cases x1
  · have HZ := Lib.hid (show ckHop e = 5 by rw [HA.out]; rfl)
    clear HA
    go_wp2
    go_ret
    exact ⟨int_eq HZ.out.symm, by rw [HF.out (by rw [HZ.out]; decide)]; exact R0.out, bel⟩
  cases x2
  · have HZ := Lib.hid (show ckHop e = 5 by rw [HA.out]; rfl)
    clear HA
    go_wp2
    go_ret
    exact ⟨int_eq HZ.out.symm, by rw [HF.out (by rw [HZ.out]; decide)]; exact R0.out, bel⟩
  have HZ := Lib.hid (show ckHop e = 0 by rw [HA.out]; rfl)
  clear HA
  obtain ⟨hBb, v, hb, hown⟩ := R0.out
  have f1 := hb.frozen 1
  have d1 := hb.cell 1 (.string nx) rfl
  have HB := Lib.hid hb
  have HO := Lib.hid hown
  clear hb hown R0
  go_upto_region 4 with fail
  have hb2 := HB.out.set (i := 1) (v := .string ⟨#[0, 0, 0, 0, 0, 0, 0, 0, 0, 0, 0, 0, 0, 0, 0, 0]⟩) (cs' := #[.int .i64 c, .string ⟨#[0, 0, 0, 0, 0, 0, 0, 0, 0, 0, 0, 0, 0, 0, 0, 0]⟩, v]) rfl
  have ho2 : Lst B (V.setCell ⟨b, 1, none⟩ (.string ⟨#[0, 0, 0, 0, 0, 0, 0, 0, 0, 0, 0, 0, 0, 0, 0, 0]⟩)) v l := own_set HO.out HB.out neR
  have b2 := B0.out.off (p := ⟨b, 1, none⟩) (by show g ≠ b; omega) (.string ⟨#[0, 0, 0, 0, 0, 0, 0, 0, 0, 0, 0, 0, 0, 0, 0, 0]⟩)
  replace bel := bel.setCell (p := ⟨b, 1, none⟩) hBb (.string ⟨#[0, 0, 0, 0, 0, 0, 0, 0, 0, 0, 0, 0, 0, 0, 0, 0]⟩)
  clear c0 c1 f1 d1 HB HO B0 h1 h2 n1 n2
  generalize World.setCell _ _ _ = W at *
  have c2 := (ec b2).c2
  have f1 := hb2.frozen 1
  have d1 := hb2.cell 1 (.string ⟨#[0, 0, 0, 0, 0, 0, 0, 0, 0, 0, 0, 0, 0, 0, 0, 0]⟩) rfl
  have HB := Lib.hid hb2
  have HO := Lib.hid ho2
  clear hb2 ho2 b2
  generalize link e.addr = x at *
  cases x
  · go_wp2_with fail
    refine (P1.out _).mono ?_
    rintro r w1 ⟨rfl, rfl⟩
    go_wp2
    go_ret
    exact ⟨int_eq HZ.out.symm, by rw [HT.out HZ.out]; exact ⟨hBb, v, by rw [HN.out]; exact HB.out, HO.out⟩, bel⟩
  · go_wp2_with fail
    refine (P1.out _).mono ?_
    rintro r w1 ⟨rfl, rfl⟩
    go_wp2
    go_ret
    refine ⟨int_eq HZ.out.symm, by rw [HT.out HZ.out]; exact ⟨hBb, v, by rw [HN.out]; exact HB.out.set (i := 1) rfl, own_set HO.out HB.out neR⟩, bel.setCell (p := ⟨b, 1, none⟩) hBb _⟩

/-- What the loads of takeRoute's last statement read, but the routes. -/
structure Sr (b g : Nat) (c : Int) (nx : ByteArray) (e : E) (W : World) : Prop where
  r0 : W.cell? ⟨b, 0, none⟩ = some (.int .i64 c)
  r1 : W.cell? ⟨b, 1, none⟩ = some (.string nx)
  en : Bk 45 W g e.cells
theorem Sr.of {b g : Nat} {c : Int} {nx : ByteArray} {e : E} {v : Value} {W : World} (h : Bk 43 W b #[.int .i64 c, .string nx, v]) (he : Bk 45 W g e.cells) : Sr b g c nx e W := ⟨h.cell 0 _ rfl, h.cell 1 _ rfl, he⟩
set_option maxHeartbeats 6400000 in
theorem route_any (B b : Nat) (c : Int) (nx : ByteArray) (l : List M) (e : E) (w : World) (h : Rdr B b c nx l w) (hB : B ≤ w.heap.size) (hl : l.length ≤ 100000) :
    Calls Try.prog 42 #[.pointer (some ⟨b, 0, none⟩), .agg e.cells] w fun r w' => r = .returned (.int .i64 (ckRte e)) ∧ Rdr B b c nx (rteL c nx e l) w' ∧ Below B w w' := by
  have P1 := Lib.hid (fun W => pfx_any e.addr e.fam W)
  have P2 := Lib.hid (fun W => met_any e.met W)
  obtain ⟨b0, bel⟩ := boxE w e
  have hr := h.below bel
  have hlt := h.lt
  replace bel := bel.mono hB
  have HT := Lib.hid (fun h => rteL_yes c nx e l h)
  have HF := Lib.hid (fun h => rteL_no c nx e l h)
  have HA := Lib.hid (show ckRte e = if pfxB e.addr e.fam then (if isMet e.met then 0 else 6) else 7 from rfl)
  clear h
  generalize hx1 : pfxB e.addr e.fam = x1 at *
  generalize hx2 : isMet e.met = x2 at *
  clear hx1 hx2
  go_enter Try.func42, Try.ntmps42
  go_upto_region 1 with fail
  have hsz := Bk.alloc_size w (.cells e.cells 45)
  generalize w.alloc (.cells e.cells 45) = V at *
  have hBV : B ≤ V.heap.size := by omega
  generalize w.heap.size = g at *
  have c0 := (ec b0).c0
  have c2 := (ec b0).c2
  have B0 := Lib.hid b0
  have R0 := Lib.hid hr
  clear b0 hr
  cases x1
  · have HZ := Lib.hid (show ckRte e = 7 by rw [HA.out]; rfl)
    clear HA
    go_wp2_with fail
    refine (P1.out _).mono ?_
    rintro r w1 ⟨rfl, hb1⟩
    replace bel := bel.trans (hb1.mono hBV)
    have R0 := Lib.hid (R0.out.below hb1)
    clear hb1 c0 c2
    go_wp2
    go_ret
    exact ⟨int_eq HZ.out.symm, by rw [HF.out (by rw [HZ.out]; decide)]; exact R0.out, bel⟩
  go_wp2_with fail
  refine (P1.out _).mono ?_
  rintro r w1 ⟨rfl, hb1⟩
  replace bel := bel.trans (hb1.mono hBV)
  have R0 := Lib.hid (R0.out.below hb1)
  have B0 := Lib.hid (B0.out.below hb1)
  have hBw : B ≤ w1.heap.size := by have := hb1.size; omega
  clear hb1 c0 c2
  have c5 := (ec B0.out).c5
  cases x2
  · have HZ := Lib.hid (show ckRte e = 6 by rw [HA.out]; rfl)
    clear HA
    go_wp2_with fail
    refine (P2.out _).mono ?_
    rintro r w1 ⟨rfl, rfl⟩
    go_wp2
    go_ret
    exact ⟨int_eq HZ.out.symm, by rw [HF.out (by rw [HZ.out]; decide)]; exact R0.out, bel⟩
  have HZ := Lib.hid (show ckRte e = 0 by rw [HA.out]; rfl)
  clear HA
  go_wp2_with fail
  refine (P2.out _).mono ?_
  rintro r w1 ⟨rfl, rfl⟩
  clear c5
  obtain ⟨hBb, v, hb, hown⟩ := R0.out
  obtain ⟨va, vc, rfl⟩ := own_form hown
  have HR := Lib.hid hb.drew
  have HE := Lib.hid B0.out.drew
  have HL := Lib.hid hl
  have HO : Hid (Lst B w1.drew (.slice va l.length vc) l) := Lib.hid hown
  replace bel : Below B w w1.drew := bel.drew
  replace hBw : B ≤ w1.drew.heap.size := hBw
  clear hb hown R0 B0 hl
  go_upto_region 5 with fail
  refine wp_region_held_drew (S := Sr b g c nx e) (by kernel_rfl) (Sr.of HR.out HE.out) (fun hS => ?_)
  generalize w1.drew = w0 at *
  refine H.take (i := 0) (v := ?v0) (by simp only [List.getElem?_toArray, List.getElem?_cons_zero]; rfl) (by kernel_rfl) rfl (by kernel_rfl) (by kernel_rfl) (by kernel_rfl) (fun _ _ _ h => h) ?h0 hS ?_
  case h0 => (intro w hw; go_simp; first | done | (with_reducible rfl))
  try simp only [Act.put, List.setIfInBounds_toArray, List.set_cons_zero, List.set_cons_succ]
  refine H.take (i := 1) (v := ?v1) (by simp only [List.getElem?_toArray, List.getElem?_cons_succ, List.getElem?_cons_zero]; rfl) (by kernel_rfl) rfl (by kernel_rfl) (by kernel_rfl) (by kernel_rfl) (fun _ _ _ h => h) ?h1 hS ?_
  case h1 => (intro w hw; go_simp; first | done | (with_reducible rfl))
  try simp only [Act.put, List.setIfInBounds_toArray, List.set_cons_zero, List.set_cons_succ]
  refine H.take (i := 2) (v := ?v2) (by simp only [List.getElem?_toArray, List.getElem?_cons_succ, List.getElem?_cons_zero]; rfl) (by kernel_rfl) rfl (by kernel_rfl) (by kernel_rfl) (by kernel_rfl) (fun _ _ _ h => h) ?h2 hS ?_
  case h2 => (intro w hw; go_simp; first | done | (with_reducible rfl))
  try simp only [Act.put, List.setIfInBounds_toArray, List.set_cons_zero, List.set_cons_succ]
  refine H.take (i := 3) (v := ?v3) (by simp only [List.getElem?_toArray, List.getElem?_cons_succ, List.getElem?_cons_zero]; rfl) (by kernel_rfl) rfl (by kernel_rfl) (by kernel_rfl) (by kernel_rfl) (fun _ _ _ h => h) ?h3 hS ?_
  case h3 => (intro w hw; go_simp; first | done | (with_reducible rfl))
  try simp only [Act.put, List.setIfInBounds_toArray, List.set_cons_zero, List.set_cons_succ]
  refine H.take (i := 5) (v := ?v5) (by simp only [List.getElem?_toArray, List.getElem?_cons_succ, List.getElem?_cons_zero]; rfl) (by kernel_rfl) rfl (by kernel_rfl) (by kernel_rfl) (by kernel_rfl) (fun _ _ _ h => h) ?h5 hS ?_
  case h5 => (intro w hw; go_simp; first | done | (with_reducible rfl))
  try simp only [Act.put, List.setIfInBounds_toArray, List.set_cons_zero, List.set_cons_succ]
  refine H.take (i := 6) (v := ?v6) (by simp only [List.getElem?_toArray, List.getElem?_cons_succ, List.getElem?_cons_zero]; rfl) (by kernel_rfl) rfl (by kernel_rfl) (by kernel_rfl) (by kernel_rfl) (fun _ _ _ h => h) ?h6 hS ?_
  case h6 => (intro w hw; go_simp; first | done | (with_reducible rfl))
  try simp only [Act.put, List.setIfInBounds_toArray, List.set_cons_zero, List.set_cons_succ]
  refine H.take (i := 7) (v := ?v7) (by simp only [List.getElem?_toArray, List.getElem?_cons_succ, List.getElem?_cons_zero]; rfl) (by kernel_rfl) rfl (by kernel_rfl) (by kernel_rfl) (by kernel_rfl) (fun _ _ _ h => h) ?h7 hS ?_
  case h7 => (intro w hw; go_simp; first | done | (with_reducible rfl))
  try simp only [Act.put, List.setIfInBounds_toArray, List.set_cons_zero, List.set_cons_succ]
  refine H.take (i := 8) (v := ?v8) (by simp only [List.getElem?_toArray, List.getElem?_cons_succ, List.getElem?_cons_zero]; rfl) (by kernel_rfl) rfl (by kernel_rfl) (by kernel_rfl) (by kernel_rfl) (fun _ _ _ h => h) ?h8 hS ?_
  case h8 => (intro w hw; have c := hw.r0; go_simp; first | done | (with_reducible rfl))
  try simp only [Act.put, List.setIfInBounds_toArray, List.set_cons_zero, List.set_cons_succ]
  refine H.take (i := 9) (v := ?v9) (by simp only [List.getElem?_toArray, List.getElem?_cons_succ, List.getElem?_cons_zero]; rfl) (by kernel_rfl) rfl (by kernel_rfl) (by kernel_rfl) (by kernel_rfl) (fun _ _ _ h => h) ?h9 hS ?_
  case h9 => (intro w hw; go_simp; first | done | (with_reducible rfl))
  try simp only [Act.put, List.setIfInBounds_toArray, List.set_cons_zero, List.set_cons_succ]
  refine H.take (i := 10) (v := ?v10) (by simp only [List.getElem?_toArray, List.getElem?_cons_succ, List.getElem?_cons_zero]; rfl) (by kernel_rfl) rfl (by kernel_rfl) (by kernel_rfl) (by kernel_rfl) (fun _ _ _ h => h) ?h10 hS ?_
  case h10 => (intro w hw; have c := (ec hw.en).c2; go_simp; first | done | (with_reducible rfl))
  try simp only [Act.put, List.setIfInBounds_toArray, List.set_cons_zero, List.set_cons_succ]
  refine H.take (i := 11) (v := ?v11) (by simp only [List.getElem?_toArray, List.getElem?_cons_succ, List.getElem?_cons_zero]; rfl) (by kernel_rfl) rfl (by kernel_rfl) (by kernel_rfl) (by kernel_rfl) (fun _ _ _ h => h) ?h11 hS ?_
  case h11 => (intro w hw; go_simp; first | done | (with_reducible rfl))
  try simp only [Act.put, List.setIfInBounds_toArray, List.set_cons_zero, List.set_cons_succ]
  refine H.take (i := 12) (v := ?v12) (by simp only [List.getElem?_toArray, List.getElem?_cons_succ, List.getElem?_cons_zero]; rfl) (by kernel_rfl) rfl (by kernel_rfl) (by kernel_rfl) (by kernel_rfl) (fun _ _ _ h => h) ?h12 hS ?_
  case h12 => (intro w hw; have c := (ec hw.en).c0; go_simp; first | done | (with_reducible rfl))
  try simp only [Act.put, List.setIfInBounds_toArray, List.set_cons_zero, List.set_cons_succ]
  refine H.take (i := 13) (v := ?v13) (by simp only [List.getElem?_toArray, List.getElem?_cons_succ, List.getElem?_cons_zero]; rfl) (by kernel_rfl) rfl (by kernel_rfl) (by kernel_rfl) (by kernel_rfl) (fun _ _ _ h => h) ?h13 hS ?_
  case h13 => (intro w hw; go_simp; first | done | (with_reducible rfl))
  try simp only [Act.put, List.setIfInBounds_toArray, List.set_cons_zero, List.set_cons_succ]
  refine H.take (i := 14) (v := ?v14) (by simp only [List.getElem?_toArray, List.getElem?_cons_succ, List.getElem?_cons_zero]; rfl) (by kernel_rfl) rfl (by kernel_rfl) (by kernel_rfl) (by kernel_rfl) (fun _ _ _ h => h) ?h14 hS ?_
  case h14 => (intro w hw; have c := (ec hw.en).c1; go_simp; first | done | (with_reducible rfl))
  try simp only [Act.put, List.setIfInBounds_toArray, List.set_cons_zero, List.set_cons_succ]
  refine H.take (i := 15) (v := ?v15) (by simp only [List.getElem?_toArray, List.getElem?_cons_succ, List.getElem?_cons_zero]; rfl) (by kernel_rfl) rfl (by kernel_rfl) (by kernel_rfl) (by kernel_rfl) (fun _ _ _ h => h) ?h15 hS ?_
  case h15 => (intro w hw; go_simp; first | done | (with_reducible rfl))
  try simp only [Act.put, List.setIfInBounds_toArray, List.set_cons_zero, List.set_cons_succ]
  refine H.take (i := 16) (v := ?v16) (by simp only [List.getElem?_toArray, List.getElem?_cons_succ, List.getElem?_cons_zero]; rfl) (by kernel_rfl) rfl (by kernel_rfl) (by kernel_rfl) (by kernel_rfl) (fun _ _ _ h => h) ?h16 hS ?_
  case h16 => (intro w hw; go_simp; first | done | (with_reducible rfl))
  try simp only [Act.put, List.setIfInBounds_toArray, List.set_cons_zero, List.set_cons_succ]
  refine H.take (i := 17) (v := ?v17) (by simp only [List.getElem?_toArray, List.getElem?_cons_succ, List.getElem?_cons_zero]; rfl) (by kernel_rfl) rfl (by kernel_rfl) (by kernel_rfl) (by kernel_rfl) (fun _ _ _ h => h) ?h17 hS ?_
  case h17 => (intro w hw; go_simp; first | done | (with_reducible rfl))
  try simp only [Act.put, List.setIfInBounds_toArray, List.set_cons_zero, List.set_cons_succ]
  refine H.take (i := 18) (v := ?v18) (by simp only [List.getElem?_toArray, List.getElem?_cons_succ, List.getElem?_cons_zero]; rfl) (by kernel_rfl) rfl (by kernel_rfl) (by kernel_rfl) (by kernel_rfl) (fun _ _ _ h => h) ?h18 hS ?_
  case h18 => (intro w hw; have c := hw.r1; go_simp; first | done | (with_reducible rfl))
  try simp only [Act.put, List.setIfInBounds_toArray, List.set_cons_zero, List.set_cons_succ]
  refine H.take (i := 19) (v := ?v19) (by simp only [List.getElem?_toArray, List.getElem?_cons_succ, List.getElem?_cons_zero]; rfl) (by kernel_rfl) rfl (by kernel_rfl) (by kernel_rfl) (by kernel_rfl) (fun _ _ _ h => h) ?h19 hS ?_
  case h19 => (intro w hw; go_simp; first | done | (with_reducible rfl))
  try simp only [Act.put, List.setIfInBounds_toArray, List.set_cons_zero, List.set_cons_succ]
  refine H.take (i := 20) (v := ?v20) (by simp only [List.getElem?_toArray, List.getElem?_cons_succ, List.getElem?_cons_zero]; rfl) (by kernel_rfl) rfl (by kernel_rfl) (by kernel_rfl) (by kernel_rfl) (fun _ _ _ h => h) ?h20 hS ?_
  case h20 => (intro w hw; have c := (ec hw.en).c5; go_simp; first | done | (with_reducible rfl))
  try simp only [Act.put, List.setIfInBounds_toArray, List.set_cons_zero, List.set_cons_succ]
  refine H.take (i := 21) (v := .agg (M.cells (routeM c nx e))) (by simp only [List.getElem?_toArray, List.getElem?_cons_succ, List.getElem?_cons_zero]; rfl) (by kernel_rfl) rfl (by kernel_rfl) (by kernel_rfl) (by kernel_rfl) (fun _ _ _ h => h) ?h21 hS ?_
  case h21 => exact (fun w hw => ex_built rfl (by kernel_rfl))
  try simp only [Act.put, List.setIfInBounds_toArray, List.set_cons_zero, List.set_cons_succ]
  have HS1 := Lib.hid (Sr.of (HR.out.old (.cells (routeM c nx e).cells 34)) (HE.out.old (.cells (routeM c nx e).cells 34)))
  have HR1 := Lib.hid (HR.out.old (.cells (routeM c nx e).cells 34))
  have HE1 := Lib.hid (HE.out.old (.cells (routeM c nx e).cells 34))
  have HO1 := Lib.hid (HO.out.below (balloc (Below.refl _ w0) (.cells (routeM c nx e).cells 34)))
  have HC1 := Lib.hid (cells_new (routeM c nx e) w0)
  replace bel := bel.alloc hBw (.cells (routeM c nx e).cells 34)
  replace hBw : B ≤ (w0.alloc (.cells (routeM c nx e).cells 34)).heap.size := by rw [Bk.alloc_size]; omega
  refine H.two (i := 4) (j := 22) (by simp only [List.getElem?_toArray, List.getElem?_cons_succ, List.getElem?_cons_zero]; rfl) (by kernel_rfl) (by simp only [List.getElem?_toArray, List.getElem?_cons_succ, List.getElem?_cons_zero]; rfl) (by kernel_rfl) (by kernel_rfl) (fun K hK => ?wa) (fun K hK => ?wb)
  case' wa =>
    refine wp_val rfl (v := .slice va l.length vc) (by have c := HR.out.cell 2 _ rfl; go_simp) ?_
    refine hK.out _ _ hS ?_
    clear hK K
    try simp only [Act.put, List.setIfInBounds_toArray, List.set_cons_zero, List.set_cons_succ]
    refine H.bsM (i := 22) (by simp only [List.getElem?_toArray, List.getElem?_cons_succ, List.getElem?_cons_zero]; rfl) (by kernel_rfl) (by kernel_rfl) rfl _ rfl (m := routeM c nx e) rfl HS1.out ?_
    try simp only [Act.put, List.setIfInBounds_toArray, List.set_cons_zero, List.set_cons_succ]
  case' wb =>
    refine wp_bsM rfl _ rfl (m := routeM c nx e) rfl ?_
    refine hK.out _ _ HS1.out ?_
    clear hK K
    try simp only [Act.put, List.setIfInBounds_toArray, List.set_cons_zero, List.set_cons_succ]
    refine H.one (i := 4) (by simp only [List.getElem?_toArray, List.getElem?_cons_succ, List.getElem?_cons_zero]; rfl) (by kernel_rfl) (by kernel_rfl) (fun K hK => ?_)
    refine wp_val rfl (v := .slice va l.length vc) (by have c := HR1.out.cell 2 _ rfl; go_simp) ?_
    refine hK.out _ _ HS1.out ?_
    clear hK K
    try simp only [Act.put, List.setIfInBounds_toArray, List.set_cons_zero, List.set_cons_succ]
  all_goals
    clear hS HS1 HR HE HO
    generalize w0.alloc (.cells (routeM c nx e).cells 34) = W1 at *
    generalize w0.heap.size = g1 at *
    have hne1 := Lib.hid (ob_ne HO1.out HR1.out neR)
    have hne2 := Lib.hid (ob_ne HO1.out HE1.out neE)
    have hlt1 := HR1.out.lt
    have hlt2 := HE1.out.lt
    refine H.appM (i := 23) (by simp only [List.getElem?_toArray, List.getElem?_cons_succ, List.getElem?_cons_zero]; rfl) (by kernel_rfl) (by kernel_rfl) rfl _ _ rfl B (.slice va l.length vc) l (routeM c nx e) g1 1 rfl HO1.out rfl HC1.out HL.out hBw (fun w' hg => Sr.of ((hg.block b hlt1 (fun e => hne1.out e.symm)).trans HR1.out) ((hg.block g hlt2 (fun e => hne2.out e.symm)).trans HE1.out)) ?_
    intro v2 W2 hown2 hgrow hb2
    try simp only [Act.put, List.setIfInBounds_toArray, List.set_cons_zero, List.set_cons_succ]
    replace bel := bel.trans hb2
    have HR2 : Hid (Bk 43 W2 b #[.int .i64 c, .string nx, .slice va l.length vc]) := Lib.hid ((hgrow.block b hlt1 (fun e => hne1.out e.symm)).trans HR1.out)
    have HE2 : Hid (Bk 45 W2 g e.cells) := Lib.hid ((hgrow.block g hlt2 (fun e => hne2.out e.symm)).trans HE1.out)
    obtain ⟨va2, vc2, rfl⟩ := own_form hown2
    have HO2 := Lib.hid hown2
    clear hown2 hgrow hb2 HR1 HE1 HO1 HC1 hne1 hne2 hlt1 hlt2
    generalize (l ++ [routeM c nx e]).length = n2 at *
    have hS2 := Sr.of HR2.out HE2.out
    refine H.take (i := 24) (v := ?v24) (by simp only [List.getElem?_toArray, List.getElem?_cons_succ, List.getElem?_cons_zero]; rfl) (by kernel_rfl) rfl (by kernel_rfl) (by kernel_rfl) (by kernel_rfl) (fun _ _ _ h => h) ?h24 hS2 ?_
    case h24 => (intro w hw; go_simp; first | done | (with_reducible rfl))
    try simp only [Act.put, List.setIfInBounds_toArray, List.set_cons_zero, List.set_cons_succ]
    refine H.take (i := 25) (v := ?v25) (by simp only [List.getElem?_toArray, List.getElem?_cons_succ, List.getElem?_cons_zero]; rfl) (by kernel_rfl) rfl (by kernel_rfl) (by kernel_rfl) (by kernel_rfl) (fun _ _ _ h => h) ?h25 hS2 ?_
    case h25 => (intro w hw; go_simp; first | done | (with_reducible rfl))
    try simp only [Act.put, List.setIfInBounds_toArray, List.set_cons_zero, List.set_cons_succ]
    have cx := HR2.out.cell 2 _ rfl
    have fx := HR2.out.frozen 2
    have HR3 := Lib.hid (HR2.out.set (i := 2) (v := .slice va2 n2 vc2) (cs' := #[.int .i64 c, .string nx, .slice va2 n2 vc2]) rfl)
    have HE3 := Lib.hid (HE2.out.off (p := ⟨b, 2, none⟩) (by show g ≠ b; omega) (.slice va2 n2 vc2))
    have HO3 : Hid (Lst B (W2.setCell ⟨b, 2, none⟩ (.slice va2 n2 vc2)) (.slice va2 n2 vc2) (l ++ [routeM c nx e])) := Lib.hid (own_set HO2.out HR2.out neR)
    replace bel := bel.setCell (p := ⟨b, 2, none⟩) hBb (.slice va2 n2 vc2)
    refine H.one (i := 26) (by simp only [List.getElem?_toArray, List.getElem?_cons_succ, List.getElem?_cons_zero]; rfl) (by kernel_rfl) (by kernel_rfl) (fun K hK => ?_)
    go_simp
    refine hK.out _ _ (Sr.of HR3.out HE3.out) ?_
    clear hK K
    try simp only [Act.put, List.setIfInBounds_toArray, List.set_cons_zero, List.set_cons_succ]
    refine wpAnyH_done (by kernel_rfl) ?_ _
    clear HR2 HE2 HO2 cx fx hS2
    generalize World.setCell _ _ _ = W3 at *
    go_wp2
    go_ret
    exact ⟨int_eq HZ.out.symm, by rw [HT.out HZ.out]; exact ⟨hBb, _, HR3.out, HO3.out⟩, bel⟩
end Go.Proofs.Ythfdcmijciclkaa.Tk
