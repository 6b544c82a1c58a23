/-
  The statement FieldNoise, of any TLV and any two bytes. Condition: the listed variable has what the program's text lays it with (the tied card).
-/
import Derived.Test.YtlfgfmhpcokjpaaDoorG9
import Derived.Laws.BitsAllLaws
import Derived.Laws.IdiomStrings
import Derived.Test.YtlfgfmhpcokjpaaDoorCards
import Derived.Test.YtlfgfmhpcokjpaaDoorTie
import Derived.Lay
import Derived.SevenTiedAt
import Derived.Stop.Joined
namespace Go.Proofs.YtlfgfmhpcokjpaaDoor.fieldNoise
open Go.ChangeShapes Go.WideShapes Go.ChangeAt Go.RowKit
open Go.ChangeMaps (open_string shut_string)
open Go.Proofs.YtlfgfmhpcokjpaaDoor.Ms
open Go.Proofs.YtlfgfmhpcokjpaaDoor.Box
open Go.Proofs.YtlfgfmhpcokjpaaDoor.S1
open Go.Proofs.YtlfgfmhpcokjpaaDoor.G1
open Go.Proofs.YtlfgfmhpcokjpaaDoor.An
open Go.Proofs.YtlfgfmhpcokjpaaDoor.Tb
open Go.Proofs.YtlfgfmhpcokjpaaDoor.G9
open Go.Proofs.YtlfgfmhpcokjpaaDoor.Hs
open Go.Proofs.YtlfgfmhpcokjpaaDoor.Open
set_option linter.unusedVariables false

open Go.Proofs.YtlfgfmhpcokjpaaDoor.Tl (cellsT)
open Go.Proofs.YtlfgfmhpcokjpaaDoor.Or (st_yes)
open Go.Proofs.YtlfgfmhpcokjpaaDoor.Hx (ex_built)
open Go.Proofs.YtlfgfmhpcokjpaaDoor.Bk (Bk)
open Go.Proofs.YtlfgfmhpcokjpaaDoor.F1 (bt)
open Go.Proofs.YtlfgfmhpcokjpaaDoor.Hy
open Go.Proofs.YtlfgfmhpcokjpaaDoor.Or (ex_load)
theorem st_made {P : Program} {ops : Array Oper} {Q : Exit → Act → World → Prop} {A : Act} {w w' : World} {rest : List Oper} {o : Oper} {d : Nat} {v : Value} (hw : Region.wanted o (yielded ops A.tmps) = true) (hd : o.dst = some d) (hy : (execOp A.eval o).run P w = .ok (.value v) w')
    (h : wpList P ops Q rest (A.put (some d) v) w') : wpList P ops Q (o :: rest) A w :=
  wpList_step fun K hK => by
    rw [if_pos hw]
    unfold Oper.wp
    rw [hy]
    simp only [Oper.upon, hd]
    exact hK _ _ h
theorem ex_bytes {o : Oper} {ρ : Operand → Value} {x : Operand} {v u : Value} {w w' : World} (ho : o.op = .convert 9 42 x) (hx : ρ x = v) (h : (convert 9 42 v).run Tryd.prog w = .ok u w') :
    (execOp ρ o).run Tryd.prog w = .ok (.value u) w' := by
  unfold execOp
  simp only [ho, hx, Sem.run_bind, h, Result.andThen_ok, Sem.run_pure]
theorem agg_u8 (w : World) : (isAgg 5).run Tryd.prog w = .ok false w := by go_simp
/-- Block b holds the bytes l, and may be written. -/
structure Rw (b : Nat) (l : List UInt8) (W : World) : Prop where
  lt : b < W.heap.size
  cell : ∀ j (h : j < l.length), W.cell? ⟨b, j, none⟩ = some (.int .u8 (l[j].toNat : Int))
  froz : ∀ j, j < l.length → W.frozen? ⟨b, j, none⟩ = false
theorem Rw.below {b : Nat} {l : List UInt8} {W W' : World} (h : Rw b l W) (hb : Below W.heap.size W W') : Rw b l W' :=
  ⟨Nat.lt_of_lt_of_le h.lt hb.size, fun j hj => (hb.cell h.lt).trans (h.cell j hj), fun j hj => (hb.frozen h.lt).trans (h.froz j hj)⟩
theorem Rw.drew {b : Nat} {l : List UInt8} {W : World} (h : Rw b l W) : Rw b l W.drew := ⟨h.lt, h.cell, h.froz⟩
theorem Rw.set {b : Nat} {l : List UInt8} {W : World} (h : Rw b l W) (i : Nat) (c : UInt8) (hi : i < l.length) : Rw b (l.set i c) (W.setCell ⟨b, i, none⟩ (.int .u8 (c.toNat : Int))) := by
  refine ⟨by simpa [World.setCell] using h.lt, fun j hj => ?_, fun j hj => ?_⟩
  · have hj' : j < l.length := by simpa using hj
    by_cases e : i = j
    · subst e
      rw [World.cell?_setCell_same (h := h.cell i hi)]
      simp
    · rw [World.cell?_setCell_other (h := by intro x; cases x; exact e rfl), h.cell j hj']
      simp [List.getElem_set_ne e]
  · rw [World.frozen?_setCell]
    exact h.froz j (by simpa using hj)
theorem rw_of (Y : World) (b : Nat) (d : ByteArray) (l : List UInt8) (hl : d.data.toList = l) (cap n : Nat) (hn : d.size ≤ n) (hh : Y.heap[b]? = some (.cells (bytesRow d cap) 5 (n, n + 1))) : Rw b l Y := by
  have hz : l.length = d.size := by rw [← hl, size_list]
  refine ⟨(Array.getElem?_eq_some_iff.1 hh).1, fun j hj => ?_, fun j hj => ?_⟩
  · rw [cell_of_row _ _ _ _ _ _ hh]
    have hj2 : j < d.data.size := by subst hl; simpa using hj
    subst hl
    unfold bytesRow
    rw [Array.getElem?_append_left (by simpa using hj2)]
    simp
    exact ⟨_, Array.getElem?_eq_getElem hj2, rfl⟩
  · simp [World.frozen?, hh]
    omega
theorem rw_new (V : World) (d : ByteArray) (l : List UInt8) (hl : d.data.toList = l) (cap : Nat) (n : Nat) (hn : d.size ≤ n) : Rw V.heap.size l (V.drew.alloc (.cells (bytesRow d cap) 5 (n, n + 1))) :=
  rw_of _ _ d l hl cap n hn (heap_alloc_new V.drew _)
/-- What stands: the TLV, the two bytes, the bytes in block g. -/
structure Ns (w : World) (a t : Int) (d : ByteArray) (n0 n1 : Int) (g : Nat) (L : List UInt8) (W : World) : Prop where
  tl : Bk 31 W w.heap.size (cellsT (a, (d, t)))
  c0 : W.cell? ⟨w.heap.size + 1, 0, none⟩ = some (.int .u8 n0)
  c1 : W.cell? ⟨w.heap.size + 1, 1, none⟩ = some (.int .u8 n1)
  row : Rw g L W
  tab : Tab W
  bel : Below w.heap.size w W
  o : w.heap.size + 1 < g
theorem Ns.drew {w : World} {a t : Int} {d : ByteArray} {n0 n1 : Int} {g : Nat} {L : List UInt8} {W : World} (h : Ns w a t d n0 n1 g L W) : Ns w a t d n0 n1 g L W.drew := ⟨h.tl, h.c0, h.c1, h.row.drew, h.tab.drew, h.bel.drew, h.o⟩
theorem Ns.set {w : World} {a t : Int} {d : ByteArray} {n0 n1 : Int} {g : Nat} {L : List UInt8} {W : World} (h : Ns w a t d n0 n1 g L W) (i : Nat) (c : UInt8) (hi : i < L.length) : Ns w a t d n0 n1 g (L.set i c) (W.setCell ⟨g, i, none⟩ (.int .u8 (c.toNat : Int))) := by
  have ho := h.o
  have hb : Below (w.heap.size + 2) W (W.setCell ⟨g, i, none⟩ (.int .u8 (c.toNat : Int))) := (Below.refl _ W).setCell (p := ⟨g, i, none⟩) (by show w.heap.size + 2 ≤ g; omega) _
  exact ⟨h.tl.off (by show w.heap.size ≠ g; omega) _, (hb.cell (by show w.heap.size + 1 < w.heap.size + 2; omega)).trans h.c0, (hb.cell (by show w.heap.size + 1 < w.heap.size + 2; omega)).trans h.c1, h.row.set i c hi, h.tab.under hb (by omega), h.bel.trans (hb.mono (by omega)), ho⟩
theorem xor_byte (c : UInt8) (k : Nat) (hk : k < 256) : ∃ x : UInt8, bits .xor .u8 (c.toNat : Int) (k : Int) = (x.toNat : Int) ∧ x.toNat = c.toNat ^^^ k := by
  have hc := c.toNat_lt
  have h : c.toNat ^^^ k < 2 ^ 8 := Nat.xor_lt_two_pow (by omega) (by omega)
  refine ⟨UInt8.ofNat (c.toNat ^^^ k), ?_, ?_⟩
  · rw [u8_xor_nat _ _ (by omega) hk, UInt8.toNat_ofNat', Nat.mod_eq_of_lt h]
  · rw [UInt8.toNat_ofNat', Nat.mod_eq_of_lt h]
theorem and_byte (k : Nat) (hk : k < 256) : bits .and .u8 (k : Int) 127 = ((k &&& 127 : Nat) : Int) ∧ k &&& 127 < 128 := ⟨u8_and_nat k 127 hk (by omega), Nat.and_lt_two_pow k (n := 7) (by omega)⟩
theorem high (c : Nat) (j : Nat) (hj : j < 128) : (c ^^^ j) / 128 = c / 128 := by
  have h : (c ^^^ j) >>> 7 = (c >>> 7) ^^^ (j >>> 7) := Nat.shiftRight_xor_distrib
  rw [Nat.shiftRight_eq_div_pow, Nat.shiftRight_eq_div_pow, Nat.shiftRight_eq_div_pow] at h
  have hz : j / 2 ^ 7 = 0 := Nat.div_eq_of_lt hj
  rw [hz, Nat.xor_zero] at h
  exact h
theorem two_of {l : List UInt8} (h : 2 ≤ l.length) : ∃ c0 c1 r, l = c0 :: c1 :: r := by
  match l, h with
  | c0 :: c1 :: r, _ => exact ⟨c0, c1, r, rfl⟩
theorem noise {t : Int} {d : ByteArray} {c0 c1 x0 x1 : UInt8} {r : List UInt8} (h2 : 2 ≤ t) (h5 : t ≤ 5) (h3 : ¬ t = 3) (hL : d.data.toList = c0 :: c1 :: r) (h6 : 6 ≤ d.size) (f4 : t = 4 → x0.toNat / 128 = c0.toNat / 128) (f5 : t = 5 → x0 = c0) :
    outF t ⟨(x0 :: x1 :: r).toArray⟩ = outF t d ∧ (x0 :: x1 :: r).length = d.size := by
  have hz : (x0 :: x1 :: r).length = d.size := by rw [← size_list, hL]; rfl
  refine ⟨(out_noise h2 h5 h3 (d := d) (d' := ⟨(x0 :: x1 :: r).toArray⟩) ?_ h6 ?_ (fun e => ?_) (fun e => ?_)).symm, hz⟩
  · rw [← hz]; exact List.size_toArray ..
  · rw [hL]; rfl
  · have := f4 e
    unfold bt
    rw [hL]
    show ((c0.toNat : Nat) : Int) / 128 = ((x0.toNat : Nat) : Int) / 128
    omega
  · unfold bt
    rw [hL, f5 e]
    rfl

set_option maxHeartbeats 25600000 in
set_option maxRecDepth 100000 in
theorem walk (a t : Int) (d : ByteArray) (n0 n1 : Int) (w : World) (hm : d.size ≤ maxLen) (z0 : 0 ≤ n0) (z1 : n0 ≤ 255) (z2 : 0 ≤ n1) (z3 : n1 ≤ 255) (ht : Tab w) :
    Calls Tryd.prog 6 #[.agg (cellsT (a, (d, t))), .agg #[.int .u8 n0, .int .u8 n1]] w fun r w' => r = .returned (.bool true) ∧ Below w.heap.size w w' := by
  unfold maxLen at hm
  have HT0 := Lib.hid ht
  clear ht
  by_cases h2 : 2 ≤ t
  rotate_left
  · go_enter Tryd.func6, Tryd.ntmps6
    go_upto_region 1 with fail
    change Code.wp _ _ _ _ ((w.alloc (.cells (cellsT (a, (d, t))) 31)).alloc (.cells #[.int .u8 n0, .int .u8 n1] 41))
    have bel := balloc (balloc (Below.refl _ w) (.cells (cellsT (a, (d, t))) 31)) (.cells #[.int .u8 n0, .int .u8 n1] 41)
    have N0 := Bk.Bk.new 41 (w.alloc (.cells (cellsT (a, (d, t))) 31)) #[.int .u8 n0, .int .u8 n1]
    rw [Bk.alloc_size] at N0
    have N0 := Lib.hid N0
    have T0 := Lib.hid ((Bk.Bk.new 31 w (cellsT (a, (d, t)))).old (.cells #[.int .u8 n0, .int .u8 n1] 41))
    have HT := Lib.hid (HT0.out.below bel)
    have HB := Lib.hid bel
    clear bel
    generalize (w.alloc (.cells (cellsT (a, (d, t))) 31)).alloc (.cells #[.int .u8 n0, .int .u8 n1] 41) = V at *
    have c0 := T0.out.cell 0 (.int .i64 t) rfl
    have c2 := T0.out.cell 2 (.string d) rfl
    go_wp2_with fail
    refine (awake_any _ HT.out).mono ?_
    rintro r w2 ⟨rfl, hb⟩
    have HB := Lib.hid (bcall HB.out hb)
    clear hb
    go_wp2
    go_ret
    exact ⟨rfl, HB.out⟩
  by_cases h5 : t ≤ 5
  rotate_left
  · go_enter Tryd.func6, Tryd.ntmps6
    go_upto_region 1 with fail
    change Code.wp _ _ _ _ ((w.alloc (.cells (cellsT (a, (d, t))) 31)).alloc (.cells #[.int .u8 n0, .int .u8 n1] 41))
    have bel := balloc (balloc (Below.refl _ w) (.cells (cellsT (a, (d, t))) 31)) (.cells #[.int .u8 n0, .int .u8 n1] 41)
    have N0 := Bk.Bk.new 41 (w.alloc (.cells (cellsT (a, (d, t))) 31)) #[.int .u8 n0, .int .u8 n1]
    rw [Bk.alloc_size] at N0
    have N0 := Lib.hid N0
    have T0 := Lib.hid ((Bk.Bk.new 31 w (cellsT (a, (d, t)))).old (.cells #[.int .u8 n0, .int .u8 n1] 41))
    have HT := Lib.hid (HT0.out.below bel)
    have HB := Lib.hid bel
    clear bel
    generalize (w.alloc (.cells (cellsT (a, (d, t))) 31)).alloc (.cells #[.int .u8 n0, .int .u8 n1] 41) = V at *
    have c0 := T0.out.cell 0 (.int .i64 t) rfl
    have c2 := T0.out.cell 2 (.string d) rfl
    go_wp2_with fail
    refine (awake_any _ HT.out).mono ?_
    rintro r w2 ⟨rfl, hb⟩
    have HB := Lib.hid (bcall HB.out hb)
    clear hb
    go_wp2
    go_ret
    exact ⟨rfl, HB.out⟩
  by_cases h3 : t = 3
  · subst h3
    go_enter Tryd.func6, Tryd.ntmps6
    go_upto_region 1 with fail
    change Code.wp _ _ _ _ ((w.alloc (.cells (cellsT (a, (d, 3))) 31)).alloc (.cells #[.int .u8 n0, .int .u8 n1] 41))
    have bel := balloc (balloc (Below.refl _ w) (.cells (cellsT (a, (d, 3))) 31)) (.cells #[.int .u8 n0, .int .u8 n1] 41)
    have N0 := Bk.Bk.new 41 (w.alloc (.cells (cellsT (a, (d, 3))) 31)) #[.int .u8 n0, .int .u8 n1]
    rw [Bk.alloc_size] at N0
    have N0 := Lib.hid N0
    have T0 := Lib.hid ((Bk.Bk.new 31 w (cellsT (a, (d, 3)))).old (.cells #[.int .u8 n0, .int .u8 n1] 41))
    have HT := Lib.hid (HT0.out.below bel)
    have HB := Lib.hid bel
    clear bel
    generalize (w.alloc (.cells (cellsT (a, (d, 3))) 31)).alloc (.cells #[.int .u8 n0, .int .u8 n1] 41) = V at *
    have c0 := T0.out.cell 0 (.int .i64 3) rfl
    have c2 := T0.out.cell 2 (.string d) rfl
    go_wp2_with fail
    refine (awake_any _ HT.out).mono ?_
    rintro r w2 ⟨rfl, hb⟩
    have HB := Lib.hid (bcall HB.out hb)
    clear hb
    go_wp2
    go_ret
    exact ⟨rfl, HB.out⟩
  have e3 : (t == 3) = false := by simpa using h3
  by_cases h6 : 6 ≤ d.size
  rotate_left
  · have hz2 : (d.size : Int) < 6 := by omega
    go_enter Tryd.func6, Tryd.ntmps6
    go_upto_region 1 with fail
    change Code.wp _ _ _ _ ((w.alloc (.cells (cellsT (a, (d, t))) 31)).alloc (.cells #[.int .u8 n0, .int .u8 n1] 41))
    have bel := balloc (balloc (Below.refl _ w) (.cells (cellsT (a, (d, t))) 31)) (.cells #[.int .u8 n0, .int .u8 n1] 41)
    have N0 := Bk.Bk.new 41 (w.alloc (.cells (cellsT (a, (d, t))) 31)) #[.int .u8 n0, .int .u8 n1]
    rw [Bk.alloc_size] at N0
    have N0 := Lib.hid N0
    have T0 := Lib.hid ((Bk.Bk.new 31 w (cellsT (a, (d, t)))).old (.cells #[.int .u8 n0, .int .u8 n1] 41))
    have HT := Lib.hid (HT0.out.below bel)
    have HB := Lib.hid bel
    clear bel
    generalize (w.alloc (.cells (cellsT (a, (d, t))) 31)).alloc (.cells #[.int .u8 n0, .int .u8 n1] 41) = V at *
    have c0 := T0.out.cell 0 (.int .i64 t) rfl
    have c2 := T0.out.cell 2 (.string d) rfl
    go_wp2_with fail
    refine (awake_any _ HT.out).mono ?_
    rintro r w2 ⟨rfl, hb⟩
    have HB := Lib.hid (bcall HB.out hb)
    clear hb
    go_wp2
    go_ret
    exact ⟨rfl, HB.out⟩
  have hz6 : ¬ (d.size : Int) < 6 := by omega
  by_cases hz : d.size ≤ 255
  rotate_left
  · have hz2 : 255 < (d.size : Int) := by omega
    go_enter Tryd.func6, Tryd.ntmps6
    go_upto_region 1 with fail
    change Code.wp _ _ _ _ ((w.alloc (.cells (cellsT (a, (d, t))) 31)).alloc (.cells #[.int .u8 n0, .int .u8 n1] 41))
    have bel := balloc (balloc (Below.refl _ w) (.cells (cellsT (a, (d, t))) 31)) (.cells #[.int .u8 n0, .int .u8 n1] 41)
    have N0 := Bk.Bk.new 41 (w.alloc (.cells (cellsT (a, (d, t))) 31)) #[.int .u8 n0, .int .u8 n1]
    rw [Bk.alloc_size] at N0
    have N0 := Lib.hid N0
    have T0 := Lib.hid ((Bk.Bk.new 31 w (cellsT (a, (d, t)))).old (.cells #[.int .u8 n0, .int .u8 n1] 41))
    have HT := Lib.hid (HT0.out.below bel)
    have HB := Lib.hid bel
    clear bel
    generalize (w.alloc (.cells (cellsT (a, (d, t))) 31)).alloc (.cells #[.int .u8 n0, .int .u8 n1] 41) = V at *
    have c0 := T0.out.cell 0 (.int .i64 t) rfl
    have c2 := T0.out.cell 2 (.string d) rfl
    go_wp2_with fail
    refine (awake_any _ HT.out).mono ?_
    rintro r w2 ⟨rfl, hb⟩
    have HB := Lib.hid (bcall HB.out hb)
    clear hb
    go_wp2
    go_ret
    exact ⟨rfl, HB.out⟩
  have hz2 : ¬ 255 < (d.size : Int) := by omega
  obtain ⟨k0, rfl⟩ := Int.eq_ofNat_of_zero_le z0
  obtain ⟨k1, rfl⟩ := Int.eq_ofNat_of_zero_le z2
  obtain ⟨c0, c1, r, hL⟩ := two_of (l := d.data.toList) (by rw [size_list]; omega)
  have HO := out_len t d h2 h5
  have HL := Lib.hid (show (outF t d).1.ll = [] ∧ (outF t d).1.sl.length ≤ 1048576 from ⟨HO.2.1, by have := HO.2.2.2.1; omega⟩)
  clear HO
  have P1 := Lib.hid (fun V (q : Tab V) => G6.get_own t a d V h2 h5 (by omega) q)
  obtain ⟨x1, hx1, hv1⟩ := xor_byte c1 k1 (by omega)
  have HX1 := Lib.hid hx1
  clear hx1 hv1
  have hx2 : ∀ x0 : UInt8, (t = 4 → x0.toNat / 128 = c0.toNat / 128) → (t = 5 → x0 = c0) → outF t ⟨(x0 :: x1 :: r).toArray⟩ = outF t d ∧ (x0 :: x1 :: r).length = d.size := fun x0 f4 f5 => noise h2 h5 h3 hL h6 f4 f5
  have HNz := Lib.hid hx2
  clear hx2
  have PD := Lib.hid (fun (x0 : UInt8) V (q : Tab V) (hs : (x0 :: x1 :: r).length = d.size) => G6.get_own t a ⟨(x0 :: x1 :: r).toArray⟩ V h2 h5 (by show (x0 :: x1 :: r).toArray.size ≤ _; rw [List.size_toArray, hs]; omega) q)
  have HLL := Lib.hid (show (c0 :: c1 :: r).length = d.size by rw [← hL, size_list])
  have HNEW := Lib.hid (fun V cap n (hn : d.size ≤ n) => rw_new V d _ hL cap n hn)
  clear hL
  rcases (show t = 2 ∨ t = 4 ∨ t = 5 by omega) with rfl | rfl | rfl
  · obtain ⟨x0, hx0, hv0⟩ := xor_byte c0 k0 (by omega)
    have HX0 := Lib.hid hx0
    clear hx0 hv0
    have HN2 := Lib.hid (HNz.out x0 (fun e => by omega) (fun e => by omega))
    have P2 := Lib.hid (fun V q => PD.out x0 V q HN2.out.2)
    rw [HN2.out.1] at P2
    clear HNz PD
    generalize outF 2 d = p at *
    obtain ⟨q, y, x⟩ := p
    simp only [] at HL
    have e1 := bool_same y
    have e2 := int_same x
    go_enter Tryd.func6, Tryd.ntmps6
    go_upto_region 1 with fail
    change Code.wp _ _ _ _ ((w.alloc (.cells (cellsT (a, (d, 2))) 31)).alloc (.cells #[.int .u8 (k0 : Int), .int .u8 (k1 : Int)] 41))
    have bel := balloc (balloc (Below.refl _ w) (.cells (cellsT (a, (d, 2))) 31)) (.cells #[.int .u8 (k0 : Int), .int .u8 (k1 : Int)] 41)
    have N0 := Bk.Bk.new 41 (w.alloc (.cells (cellsT (a, (d, 2))) 31)) #[.int .u8 (k0 : Int), .int .u8 (k1 : Int)]
    rw [Bk.alloc_size] at N0
    have N0 := Lib.hid N0
    have T0 := Lib.hid ((Bk.Bk.new 31 w (cellsT (a, (d, 2)))).old (.cells #[.int .u8 (k0 : Int), .int .u8 (k1 : Int)] 41))
    have HT := Lib.hid (HT0.out.below bel)
    have HB := Lib.hid bel
    clear bel
    generalize (w.alloc (.cells (cellsT (a, (d, 2))) 31)).alloc (.cells #[.int .u8 (k0 : Int), .int .u8 (k1 : Int)] 41) = V at *
    have q0 := T0.out.cell 0 (.int .i64 2) rfl
    have q2 := T0.out.cell 2 (.string d) rfl
    have CV := run_bytes_of_string (P := Tryd.prog) V 9 42 5 d Tryd.underlying9 Tryd.underlying42 Tryd.underlying5
    have HNV := Lib.hid (HNEW.out V (grownCap V d.size 0 5) (bytesRow d (grownCap V d.size 0 5)).size (by unfold bytesRow; simp))
    go_upto_region 4 with (first | (refine st_made (by rfl) rfl (ex_bytes (x := .tmp 39) rfl rfl CV) ?_))
    change Code.wp _ _ _ _ (V.drew.alloc (.cells (bytesRow d (grownCap V d.size 0 5)) 5 ((bytesRow d (grownCap V d.size 0 5)).size, (bytesRow d (grownCap V d.size 0 5)).size + 1)))
    generalize hcap : grownCap V d.size 0 5 = cap at *
    clear CV hcap
    have bel := (Below.refl V.heap.size V).drew.alloc (Nat.le_refl _) (.cells (bytesRow d cap) 5 ((bytesRow d cap).size, (bytesRow d cap).size + 1))
    have hN : Ns w a 2 d (k0 : Int) (k1 : Int) V.heap.size (c0 :: c1 :: r) _ := ⟨T0.out.below bel, (N0.out.below bel).cell 0 _ rfl, (N0.out.below bel).cell 1 _ rfl, HNV.out, HT.out.below bel, bcall HB.out bel, N0.out.lt⟩
    clear bel T0 N0 HT HB HNV q0 q2
    generalize V.drew.alloc (.cells (bytesRow d cap) 5 ((bytesRow d cap).size, (bytesRow d cap).size + 1)) = V2 at *
    generalize V.heap.size = g at *
    have q0 := hN.tl.cell 0 (.int .i64 2) rfl
    have hN := Lib.hid hN
    go_upto_region 7 with fail
    refine wp_region_held_drew (S := fun W => W.cell? ⟨w.heap.size + 1, 0, none⟩ = some (.int .u8 (k0 : Int)) ∧ W.cell? ⟨w.heap.size + 1, 1, none⟩ = some (.int .u8 (k1 : Int))) (by kernel_rfl) ⟨hN.out.drew.c0, hN.out.drew.c1⟩ (fun hS => ?_)
    have hN := hN.out.drew
    clear q0
    generalize V2.drew = X0 at *
    refine H.tk (i := 0) (v := ?v0x1a) ?h0x1a hS ?_
    case h0x1a => (intro w hw; go_simp; first | done | (with_reducible rfl))
    try simp only [Act.put, List.setIfInBounds_toArray, List.set_cons_zero, List.set_cons_succ]
    refine H.tk (i := 1) (v := ?v1x2a) ?h1x2a hS ?_
    case h1x2a => (intro w hw; go_simp; first | done | (with_reducible rfl))
    try simp only [Act.put, List.setIfInBounds_toArray, List.set_cons_zero, List.set_cons_succ]
    refine H.tk (i := 2) (v := ?v2x3a) ?h2x3a hS ?_
    case h2x3a => (intro w hw; go_simp; first | done | (with_reducible rfl))
    try simp only [Act.put, List.setIfInBounds_toArray, List.set_cons_zero, List.set_cons_succ]
    refine H.tk (i := 3) (v := .pointer (some ⟨g, 0, none⟩)) ?h3x4a hS ?_
    case h3x4a => exact (fun w hw => by go_simp; intro e; exact absurd h6 (by rw [e]; decide))
    try simp only [Act.put, List.setIfInBounds_toArray, List.set_cons_zero, List.set_cons_succ]
    refine H.tk (i := 5) (v := .pointer (some ⟨w.heap.size + 1, 0, none⟩)) ?h5x5a hS ?_
    case h5x5a => exact (fun w hw => by go_simp)
    try simp only [Act.put, List.setIfInBounds_toArray, List.set_cons_zero, List.set_cons_succ]
    refine H.tk (i := 6) (v := .int .u8 (k0 : Int)) ?h6x6a hS ?_
    case h6x6a => exact (fun w hw => by have c := hw.1; go_simp)
    try simp only [Act.put, List.setIfInBounds_toArray, List.set_cons_zero, List.set_cons_succ]
    refine H.tk (i := 8) (v := ?v8x7a) ?h8x7a hS ?_
    case h8x7a => (intro w hw; go_simp; first | done | (with_reducible rfl))
    try simp only [Act.put, List.setIfInBounds_toArray, List.set_cons_zero, List.set_cons_succ]
    refine H.tk (i := 9) (v := .pointer (some ⟨g, 1, none⟩)) ?h9x8a hS ?_
    case h9x8a => exact (fun w hw => by go_simp; intro e; omega)
    try simp only [Act.put, List.setIfInBounds_toArray, List.set_cons_zero, List.set_cons_succ]
    refine H.tk (i := 11) (v := .pointer (some ⟨w.heap.size + 1, 1, none⟩)) ?h11x9a hS ?_
    case h11x9a => exact (fun w hw => by go_simp)
    try simp only [Act.put, List.setIfInBounds_toArray, List.set_cons_zero, List.set_cons_succ]
    refine H.tk (i := 12) (v := .int .u8 (k1 : Int)) ?h12x10a hS ?_
    case h12x10a => exact (fun w hw => by have c := hw.2; go_simp)
    try simp only [Act.put, List.setIfInBounds_toArray, List.set_cons_zero, List.set_cons_succ]
    refine H.two (i := 4) (j := 10) (by simp only [List.getElem?_toArray, List.getElem?_cons_succ, List.getElem?_cons_zero]; rfl) (by kernel_rfl) (by simp only [List.getElem?_toArray, List.getElem?_cons_succ, List.getElem?_cons_zero]; rfl) (by kernel_rfl) (by kernel_rfl) (fun K hK => ?wa11a) (fun K hK => ?wb11a)
    case wa11a =>
      refine wp_valW (d := 57) rfl (ex_load (T := 5) rfl (agg_u8 _) rfl (hN.row.cell 0 (by simp))) ?_
      refine hK.out _ _ hS ?_
      clear hK K
      try simp only [Act.put, List.setIfInBounds_toArray, List.set_cons_zero, List.set_cons_succ]
      refine H.tk (i := 7) (v := .int .u8 (x0.toNat : Int)) ?h7x12a hS ?_
      case h7x12a => exact (fun w hw => by go_simp; rw [HX0.out])
      try simp only [Act.put, List.setIfInBounds_toArray, List.set_cons_zero, List.set_cons_succ]
      refine H.one (i := 10) (by simp only [List.getElem?_toArray, List.getElem?_cons_succ, List.getElem?_cons_zero]; rfl) (by kernel_rfl) (by kernel_rfl) (fun K hK => ?_)
      refine wp_valW (d := 63) rfl (ex_load (T := 5) rfl (agg_u8 _) rfl (hN.row.cell 1 (by simp))) ?_
      refine hK.out _ _ hS ?_
      clear hK K
      try simp only [Act.put, List.setIfInBounds_toArray, List.set_cons_zero, List.set_cons_succ]
      refine H.tk (i := 13) (v := .int .u8 (x1.toNat : Int)) ?h13x13a hS ?_
      case h13x13a => exact (fun w hw => by go_simp; rw [HX1.out])
      try simp only [Act.put, List.setIfInBounds_toArray, List.set_cons_zero, List.set_cons_succ]
      refine H.tk (i := 14) (v := .pointer (some ⟨g, 0, none⟩)) ?h14x14a hS ?_
      case h14x14a => exact (fun w hw => by go_simp; intro e; exact absurd h6 (by rw [e]; decide))
      try simp only [Act.put, List.setIfInBounds_toArray, List.set_cons_zero, List.set_cons_succ]
      refine H.one (i := 15) (by simp only [List.getElem?_toArray, List.getElem?_cons_succ, List.getElem?_cons_zero]; rfl) (by kernel_rfl) (by kernel_rfl) (fun K hK => ?_)
      have cx := hN.row.cell 0 (by simp)
      have fx := hN.row.froz 0 (by simp)
      go_simp
      have hN' := hN.set 0 x0 (by simp)
      refine hK.out _ _ ⟨hN'.c0, hN'.c1⟩ ?_
      clear hK K hS hN cx fx
      have hN := hN'
      have hS := And.intro hN.c0 hN.c1
      clear hN'
      simp only [List.set_cons_zero] at hN
      generalize World.setCell _ ⟨g, 0, none⟩ _ = Y at *
      try simp only [Act.put, List.setIfInBounds_toArray, List.set_cons_zero, List.set_cons_succ]
      refine H.tk (i := 16) (v := .pointer (some ⟨g, 1, none⟩)) ?h16x15a hS ?_
      case h16x15a => exact (fun w hw => by go_simp; intro e; omega)
      try simp only [Act.put, List.setIfInBounds_toArray, List.set_cons_zero, List.set_cons_succ]
      refine H.one (i := 17) (by simp only [List.getElem?_toArray, List.getElem?_cons_succ, List.getElem?_cons_zero]; rfl) (by kernel_rfl) (by kernel_rfl) (fun K hK => ?_)
      have cx := hN.row.cell 1 (by simp)
      have fx := hN.row.froz 1 (by simp)
      go_simp
      have hN' := hN.set 1 x1 (by simp)
      refine hK.out _ _ ⟨hN'.c0, hN'.c1⟩ ?_
      clear hK K hS hN cx fx
      have hN := hN'
      have hS := And.intro hN.c0 hN.c1
      clear hN'
      simp only [List.set_cons_zero, List.set_cons_succ] at hN
      generalize World.setCell _ ⟨g, 1, none⟩ _ = Y at *
      try simp only [Act.put, List.setIfInBounds_toArray, List.set_cons_zero, List.set_cons_succ]
      refine wpAnyH_done (by kernel_rfl) ?_ _
      have T0 := Lib.hid hN.tl
      have HR := Lib.hid hN.row
      have HT := Lib.hid hN.tab
      have HB := Lib.hid hN.bel
      clear hN hS
      go_wp2_with (first | (refine Bk.wpList_loadK (b := w.heap.size) Tl.shT rfl _ rfl rfl T0.out rfl ?_))
      refine (P1.out _ HT.out).mono ?_
      intro r w11 hr
      obtain ⟨n1, rfl, hi, hp, hb⟩ := hr.at HL.out.1 HL.out.2
      have T0 := Lib.hid (T0.out.below hb)
      have HR := Lib.hid (HR.out.below hb)
      have HT := Lib.hid (HT.out.below hb)
      have HB := Lib.hid (bcall HB.out hb)
      clear hr
      go_upto_region 11 with (refine wpList_storeM (b := w11.heap.size) (m := M.zero) (m' := n1) rfl _ _ rfl rfl rfl (Bx.new w11 M.zero) ?_)
      change Code.wp _ _ _ _ ((w11.alloc (.cells M.zero.cells 25)).setRow w11.heap.size n1.cells)
      rw [World.setRow_alloc_new]
      have bel := balloc (Below.refl w11.heap.size w11) (.cells n1.cells 25)
      have T0 := Lib.hid (T0.out.below bel)
      have HR := Lib.hid (HR.out.below bel)
      have I1 := Lib.hid (hi.below bel)
      have HT := Lib.hid (HT.out.below bel)
      have HB := Lib.hid (bcall HB.out bel)
      have X1 := Lib.hid (Bx.new w11 n1)
      have H1 := Lib.hid hp
      clear hi hp hb bel
      generalize w11.alloc (.cells n1.cells 25) = V1 at *
      generalize w11.heap.size = g1 at *
      have q0 := T0.out.cell 0 (.int .i64 2) rfl
      have q1 := T0.out.cell 1 (.int .i64 a) rfl
      have cv := run_convert_bytes_back V1 42 9 5 ⟨g, 0, none⟩ cap (x0 :: x1 :: r) Tryd.underlying42 Tryd.underlying5 Tryd.underlying9 (fun j hj => by rw [Sx.add_at, Nat.zero_add]; exact HR.out.cell j hj)
      rw [HN2.out.2] at cv
      generalize (⟨(x0 :: x1 :: r).toArray⟩ : ByteArray) = d2 at *
      go_wp2_with fail
      refine (P2.out _ HT.out).mono ?_
      intro r w12 hr
      obtain ⟨n2, rfl, hi, hp, hb⟩ := hr.at HL.out.1 HL.out.2
      have X1 := Lib.hid (X1.out.below hb)
      have I1 := Lib.hid (I1.out.below hb)
      have HT := Lib.hid (HT.out.below hb)
      have HB := Lib.hid (bcall HB.out hb)
      clear hr
      go_upto_region 12 with (refine wpList_storeM (b := w12.heap.size) (m := M.zero) (m' := n2) rfl _ _ rfl rfl rfl (Bx.new w12 M.zero) ?_)
      change Code.wp _ _ _ _ ((w12.alloc (.cells M.zero.cells 25)).setRow w12.heap.size n2.cells)
      rw [World.setRow_alloc_new]
      have bel := balloc (Below.refl w12.heap.size w12) (.cells n2.cells 25)
      have X1 := Lib.hid (X1.out.below bel)
      have I1 := Lib.hid (I1.out.below bel)
      clear q0 q1 cv HR T0
      have I2 := Lib.hid (hi.below bel)
      have HT := Lib.hid (HT.out.below bel)
      have HB := Lib.hid (bcall HB.out bel)
      have X2 := Lib.hid (Bx.new w12 n2)
      have H2 := Lib.hid hp
      clear hi hp hb bel
      generalize w12.alloc (.cells n2.cells 25) = V2 at *
      generalize w12.heap.size = g2 at *
      have PS := Lib.hid (fun W h h' => RSame.rsame_any n1 n2 W h h')
      rw [H1.out.same H2.out, same_self] at PS
      go_wp2_with fail
      refine (awake_any _ HT.out).mono ?_
      rintro r w13 ⟨rfl, hb⟩
      have X1 := Lib.hid (X1.out.below hb)
      have I1 := Lib.hid (I1.out.below hb)
      have X2 := Lib.hid (X2.out.below hb)
      have I2 := Lib.hid (I2.out.below hb)
      have HT := Lib.hid (HT.out.below hb)
      have HB := Lib.hid (bcall HB.out hb)
      clear hb
      go_wp2_with (first | (refine st_yes (v := .agg (M.cells n1)) (by rfl) rfl (run_loadM (x := .tmp 6) rfl rfl X1.out) ?_) | (refine st_yes (v := .agg (M.cells n2)) (by rfl) rfl (run_loadM (x := .tmp 9) rfl rfl X2.out) ?_))
      refine (PS.out _ I1.out I2.out).mono ?_
      rintro r' w14 ⟨rfl, hb⟩
      have HB := Lib.hid (bcall HB.out hb)
      clear hb
      go_wp2
      go_ret
      exact ⟨rfl, HB.out⟩
    case wb11a =>
      refine wp_valW (d := 63) rfl (ex_load (T := 5) rfl (agg_u8 _) rfl (hN.row.cell 1 (by simp))) ?_
      refine hK.out _ _ hS ?_
      clear hK K
      try simp only [Act.put, List.setIfInBounds_toArray, List.set_cons_zero, List.set_cons_succ]
      refine H.tk (i := 13) (v := .int .u8 (x1.toNat : Int)) ?h13x16a hS ?_
      case h13x16a => exact (fun w hw => by go_simp; rw [HX1.out])
      try simp only [Act.put, List.setIfInBounds_toArray, List.set_cons_zero, List.set_cons_succ]
      refine H.one (i := 4) (by simp only [List.getElem?_toArray, List.getElem?_cons_succ, List.getElem?_cons_zero]; rfl) (by kernel_rfl) (by kernel_rfl) (fun K hK => ?_)
      refine wp_valW (d := 57) rfl (ex_load (T := 5) rfl (agg_u8 _) rfl (hN.row.cell 0 (by simp))) ?_
      refine hK.out _ _ hS ?_
      clear hK K
      try simp only [Act.put, List.setIfInBounds_toArray, List.set_cons_zero, List.set_cons_succ]
      refine H.tk (i := 7) (v := .int .u8 (x0.toNat : Int)) ?h7x17a hS ?_
      case h7x17a => exact (fun w hw => by go_simp; rw [HX0.out])
      try simp only [Act.put, List.setIfInBounds_toArray, List.set_cons_zero, List.set_cons_succ]
      refine H.tk (i := 14) (v := .pointer (some ⟨g, 0, none⟩)) ?h14x18a hS ?_
      case h14x18a => exact (fun w hw => by go_simp; intro e; exact absurd h6 (by rw [e]; decide))
      try simp only [Act.put, List.setIfInBounds_toArray, List.set_cons_zero, List.set_cons_succ]
      refine H.one (i := 15) (by simp only [List.getElem?_toArray, List.getElem?_cons_succ, List.getElem?_cons_zero]; rfl) (by kernel_rfl) (by kernel_rfl) (fun K hK => ?_)
      have cx := hN.row.cell 0 (by simp)
      have fx := hN.row.froz 0 (by simp)
      go_simp
      have hN' := hN.set 0 x0 (by simp)
      refine hK.out _ _ ⟨hN'.c0, hN'.c1⟩ ?_
      clear hK K hS hN cx fx
      have hN := hN'
      have hS := And.intro hN.c0 hN.c1
      clear hN'
      simp only [List.set_cons_zero] at hN
      generalize World.setCell _ ⟨g, 0, none⟩ _ = Y at *
      try simp only [Act.put, List.setIfInBounds_toArray, List.set_cons_zero, List.set_cons_succ]
      refine H.tk (i := 16) (v := .pointer (some ⟨g, 1, none⟩)) ?h16x19a hS ?_
      case h16x19a => exact (fun w hw => by go_simp; intro e; omega)
      try simp only [Act.put, List.setIfInBounds_toArray, List.set_cons_zero, List.set_cons_succ]
      refine H.one (i := 17) (by simp only [List.getElem?_toArray, List.getElem?_cons_succ, List.getElem?_cons_zero]; rfl) (by kernel_rfl) (by kernel_rfl) (fun K hK => ?_)
      have cx := hN.row.cell 1 (by simp)
      have fx := hN.row.froz 1 (by simp)
      go_simp
      have hN' := hN.set 1 x1 (by simp)
      refine hK.out _ _ ⟨hN'.c0, hN'.c1⟩ ?_
      clear hK K hS hN cx fx
      have hN := hN'
      have hS := And.intro hN.c0 hN.c1
      clear hN'
      simp only [List.set_cons_zero, List.set_cons_succ] at hN
      generalize World.setCell _ ⟨g, 1, none⟩ _ = Y at *
      try simp only [Act.put, List.setIfInBounds_toArray, List.set_cons_zero, List.set_cons_succ]
      refine wpAnyH_done (by kernel_rfl) ?_ _
      have T0 := Lib.hid hN.tl
      have HR := Lib.hid hN.row
      have HT := Lib.hid hN.tab
      have HB := Lib.hid hN.bel
      clear hN hS
      go_wp2_with (first | (refine Bk.wpList_loadK (b := w.heap.size) Tl.shT rfl _ rfl rfl T0.out rfl ?_))
      refine (P1.out _ HT.out).mono ?_
      intro r w11 hr
      obtain ⟨n1, rfl, hi, hp, hb⟩ := hr.at HL.out.1 HL.out.2
      have T0 := Lib.hid (T0.out.below hb)
      have HR := Lib.hid (HR.out.below hb)
      have HT := Lib.hid (HT.out.below hb)
      have HB := Lib.hid (bcall HB.out hb)
      clear hr
      go_upto_region 11 with (refine wpList_storeM (b := w11.heap.size) (m := M.zero) (m' := n1) rfl _ _ rfl rfl rfl (Bx.new w11 M.zero) ?_)
      change Code.wp _ _ _ _ ((w11.alloc (.cells M.zero.cells 25)).setRow w11.heap.size n1.cells)
      rw [World.setRow_alloc_new]
      have bel := balloc (Below.refl w11.heap.size w11) (.cells n1.cells 25)
      have T0 := Lib.hid (T0.out.below bel)
      have HR := Lib.hid (HR.out.below bel)
      have I1 := Lib.hid (hi.below bel)
      have HT := Lib.hid (HT.out.below bel)
      have HB := Lib.hid (bcall HB.out bel)
      have X1 := Lib.hid (Bx.new w11 n1)
      have H1 := Lib.hid hp
      clear hi hp hb bel
      generalize w11.alloc (.cells n1.cells 25) = V1 at *
      generalize w11.heap.size = g1 at *
      have q0 := T0.out.cell 0 (.int .i64 2) rfl
      have q1 := T0.out.cell 1 (.int .i64 a) rfl
      have cv := run_convert_bytes_back V1 42 9 5 ⟨g, 0, none⟩ cap (x0 :: x1 :: r) Tryd.underlying42 Tryd.underlying5 Tryd.underlying9 (fun j hj => by rw [Sx.add_at, Nat.zero_add]; exact HR.out.cell j hj)
      rw [HN2.out.2] at cv
      generalize (⟨(x0 :: x1 :: r).toArray⟩ : ByteArray) = d2 at *
      go_wp2_with fail
      refine (P2.out _ HT.out).mono ?_
      intro r w12 hr
      obtain ⟨n2, rfl, hi, hp, hb⟩ := hr.at HL.out.1 HL.out.2
      have X1 := Lib.hid (X1.out.below hb)
      have I1 := Lib.hid (I1.out.below hb)
      have HT := Lib.hid (HT.out.below hb)
      have HB := Lib.hid (bcall HB.out hb)
      clear hr
      go_upto_region 12 with (refine wpList_storeM (b := w12.heap.size) (m := M.zero) (m' := n2) rfl _ _ rfl rfl rfl (Bx.new w12 M.zero) ?_)
      change Code.wp _ _ _ _ ((w12.alloc (.cells M.zero.cells 25)).setRow w12.heap.size n2.cells)
      rw [World.setRow_alloc_new]
      have bel := balloc (Below.refl w12.heap.size w12) (.cells n2.cells 25)
      have X1 := Lib.hid (X1.out.below bel)
      have I1 := Lib.hid (I1.out.below bel)
      clear q0 q1 cv HR T0
      have I2 := Lib.hid (hi.below bel)
      have HT := Lib.hid (HT.out.below bel)
      have HB := Lib.hid (bcall HB.out bel)
      have X2 := Lib.hid (Bx.new w12 n2)
      have H2 := Lib.hid hp
      clear hi hp hb bel
      generalize w12.alloc (.cells n2.cells 25) = V2 at *
      generalize w12.heap.size = g2 at *
      have PS := Lib.hid (fun W h h' => RSame.rsame_any n1 n2 W h h')
      rw [H1.out.same H2.out, same_self] at PS
      go_wp2_with fail
      refine (awake_any _ HT.out).mono ?_
      rintro r w13 ⟨rfl, hb⟩
      have X1 := Lib.hid (X1.out.below hb)
      have I1 := Lib.hid (I1.out.below hb)
      have X2 := Lib.hid (X2.out.below hb)
      have I2 := Lib.hid (I2.out.below hb)
      have HT := Lib.hid (HT.out.below hb)
      have HB := Lib.hid (bcall HB.out hb)
      clear hb
      go_wp2_with (first | (refine st_yes (v := .agg (M.cells n1)) (by rfl) rfl (run_loadM (x := .tmp 6) rfl rfl X1.out) ?_) | (refine st_yes (v := .agg (M.cells n2)) (by rfl) rfl (run_loadM (x := .tmp 9) rfl rfl X2.out) ?_))
      refine (PS.out _ I1.out I2.out).mono ?_
      rintro r' w14 ⟨rfl, hb⟩
      have HB := Lib.hid (bcall HB.out hb)
      clear hb
      go_wp2
      go_ret
      exact ⟨rfl, HB.out⟩
  · obtain ⟨ha0, ha1⟩ := and_byte k0 (by omega)
    obtain ⟨x0, hx0, hv0⟩ := xor_byte c0 (k0 &&& 127) (by omega)
    have HX0 := Lib.hid hx0
    have HA0 := Lib.hid ha0
    have HN2 := Lib.hid (HNz.out x0 (fun _ => by rw [hv0]; exact high _ _ ha1) (fun e => by omega))
    have P2 := Lib.hid (fun V q => PD.out x0 V q HN2.out.2)
    rw [HN2.out.1] at P2
    clear HNz PD
    generalize outF 4 d = p at *
    obtain ⟨q, y, x⟩ := p
    simp only [] at HL
    have e1 := bool_same y
    have e2 := int_same x
    clear hx0 hv0 ha0 ha1
    go_enter Tryd.func6, Tryd.ntmps6
    go_upto_region 1 with fail
    change Code.wp _ _ _ _ ((w.alloc (.cells (cellsT (a, (d, 4))) 31)).alloc (.cells #[.int .u8 (k0 : Int), .int .u8 (k1 : Int)] 41))
    have bel := balloc (balloc (Below.refl _ w) (.cells (cellsT (a, (d, 4))) 31)) (.cells #[.int .u8 (k0 : Int), .int .u8 (k1 : Int)] 41)
    have N0 := Bk.Bk.new 41 (w.alloc (.cells (cellsT (a, (d, 4))) 31)) #[.int .u8 (k0 : Int), .int .u8 (k1 : Int)]
    rw [Bk.alloc_size] at N0
    have N0 := Lib.hid N0
    have T0 := Lib.hid ((Bk.Bk.new 31 w (cellsT (a, (d, 4)))).old (.cells #[.int .u8 (k0 : Int), .int .u8 (k1 : Int)] 41))
    have HT := Lib.hid (HT0.out.below bel)
    have HB := Lib.hid bel
    clear bel
    generalize (w.alloc (.cells (cellsT (a, (d, 4))) 31)).alloc (.cells #[.int .u8 (k0 : Int), .int .u8 (k1 : Int)] 41) = V at *
    have q0 := T0.out.cell 0 (.int .i64 4) rfl
    have q2 := T0.out.cell 2 (.string d) rfl
    have CV := run_bytes_of_string (P := Tryd.prog) V 9 42 5 d Tryd.underlying9 Tryd.underlying42 Tryd.underlying5
    have HNV := Lib.hid (HNEW.out V (grownCap V d.size 0 5) (bytesRow d (grownCap V d.size 0 5)).size (by unfold bytesRow; simp))
    go_upto_region 4 with (first | (refine st_made (by rfl) rfl (ex_bytes (x := .tmp 39) rfl rfl CV) ?_))
    change Code.wp _ _ _ _ (V.drew.alloc (.cells (bytesRow d (grownCap V d.size 0 5)) 5 ((bytesRow d (grownCap V d.size 0 5)).size, (bytesRow d (grownCap V d.size 0 5)).size + 1)))
    generalize hcap : grownCap V d.size 0 5 = cap at *
    clear CV hcap
    have bel := (Below.refl V.heap.size V).drew.alloc (Nat.le_refl _) (.cells (bytesRow d cap) 5 ((bytesRow d cap).size, (bytesRow d cap).size + 1))
    have hN : Ns w a 4 d (k0 : Int) (k1 : Int) V.heap.size (c0 :: c1 :: r) _ := ⟨T0.out.below bel, (N0.out.below bel).cell 0 _ rfl, (N0.out.below bel).cell 1 _ rfl, HNV.out, HT.out.below bel, bcall HB.out bel, N0.out.lt⟩
    clear bel T0 N0 HT HB HNV q0 q2
    generalize V.drew.alloc (.cells (bytesRow d cap) 5 ((bytesRow d cap).size, (bytesRow d cap).size + 1)) = V2 at *
    generalize V.heap.size = g at *
    have q0 := hN.tl.cell 0 (.int .i64 4) rfl
    have hN := Lib.hid hN
    go_upto_region 9 with fail
    refine wp_region_held_drew (S := fun W => W.cell? ⟨w.heap.size + 1, 0, none⟩ = some (.int .u8 (k0 : Int)) ∧ W.cell? ⟨w.heap.size + 1, 1, none⟩ = some (.int .u8 (k1 : Int))) (by kernel_rfl) ⟨hN.out.drew.c0, hN.out.drew.c1⟩ (fun hS => ?_)
    have hN := hN.out.drew
    clear q0
    generalize V2.drew = X0 at *
    refine H.tk (i := 0) (v := ?v0x1b) ?h0x1b hS ?_
    case h0x1b => (intro w hw; go_simp; first | done | (with_reducible rfl))
    try simp only [Act.put, List.setIfInBounds_toArray, List.set_cons_zero, List.set_cons_succ]
    refine H.tk (i := 1) (v := ?v1x2b) ?h1x2b hS ?_
    case h1x2b => (intro w hw; go_simp; first | done | (with_reducible rfl))
    try simp only [Act.put, List.setIfInBounds_toArray, List.set_cons_zero, List.set_cons_succ]
    refine H.tk (i := 2) (v := ?v2x3b) ?h2x3b hS ?_
    case h2x3b => (intro w hw; go_simp; first | done | (with_reducible rfl))
    try simp only [Act.put, List.setIfInBounds_toArray, List.set_cons_zero, List.set_cons_succ]
    refine H.tk (i := 3) (v := .pointer (some ⟨g, 0, none⟩)) ?h3x4b hS ?_
    case h3x4b => exact (fun w hw => by go_simp; intro e; exact absurd h6 (by rw [e]; decide))
    try simp only [Act.put, List.setIfInBounds_toArray, List.set_cons_zero, List.set_cons_succ]
    refine H.tk (i := 5) (v := .pointer (some ⟨w.heap.size + 1, 0, none⟩)) ?h5x5b hS ?_
    case h5x5b => exact (fun w hw => by go_simp)
    try simp only [Act.put, List.setIfInBounds_toArray, List.set_cons_zero, List.set_cons_succ]
    refine H.tk (i := 6) (v := .int .u8 (k0 : Int)) ?h6x6b hS ?_
    case h6x6b => exact (fun w hw => by have c := hw.1; go_simp)
    try simp only [Act.put, List.setIfInBounds_toArray, List.set_cons_zero, List.set_cons_succ]
    refine H.tk (i := 7) (v := .int .u8 ((k0 &&& 127 : Nat) : Int)) ?h7x7b hS ?_
    case h7x7b => exact (fun w hw => by go_simp; rw [HA0.out])
    try simp only [Act.put, List.setIfInBounds_toArray, List.set_cons_zero, List.set_cons_succ]
    refine H.tk (i := 9) (v := ?v9x8b) ?h9x8b hS ?_
    case h9x8b => (intro w hw; go_simp; first | done | (with_reducible rfl))
    try simp only [Act.put, List.setIfInBounds_toArray, List.set_cons_zero, List.set_cons_succ]
    refine H.tk (i := 10) (v := .pointer (some ⟨g, 1, none⟩)) ?h10x9b hS ?_
    case h10x9b => exact (fun w hw => by go_simp; intro e; omega)
    try simp only [Act.put, List.setIfInBounds_toArray, List.set_cons_zero, List.set_cons_succ]
    refine H.tk (i := 12) (v := .pointer (some ⟨w.heap.size + 1, 1, none⟩)) ?h12x10b hS ?_
    case h12x10b => exact (fun w hw => by go_simp)
    try simp only [Act.put, List.setIfInBounds_toArray, List.set_cons_zero, List.set_cons_succ]
    refine H.tk (i := 13) (v := .int .u8 (k1 : Int)) ?h13x11b hS ?_
    case h13x11b => exact (fun w hw => by have c := hw.2; go_simp)
    try simp only [Act.put, List.setIfInBounds_toArray, List.set_cons_zero, List.set_cons_succ]
    refine H.two (i := 4) (j := 11) (by simp only [List.getElem?_toArray, List.getElem?_cons_succ, List.getElem?_cons_zero]; rfl) (by kernel_rfl) (by simp only [List.getElem?_toArray, List.getElem?_cons_succ, List.getElem?_cons_zero]; rfl) (by kernel_rfl) (by kernel_rfl) (fun K hK => ?wa12b) (fun K hK => ?wb12b)
    case wa12b =>
      refine wp_valW (d := 75) rfl (ex_load (T := 5) rfl (agg_u8 _) rfl (hN.row.cell 0 (by simp))) ?_
      refine hK.out _ _ hS ?_
      clear hK K
      try simp only [Act.put, List.setIfInBounds_toArray, List.set_cons_zero, List.set_cons_succ]
      refine H.tk (i := 8) (v := .int .u8 (x0.toNat : Int)) ?h8x13b hS ?_
      case h8x13b => exact (fun w hw => by go_simp; rw [HX0.out])
      try simp only [Act.put, List.setIfInBounds_toArray, List.set_cons_zero, List.set_cons_succ]
      refine H.one (i := 11) (by simp only [List.getElem?_toArray, List.getElem?_cons_succ, List.getElem?_cons_zero]; rfl) (by kernel_rfl) (by kernel_rfl) (fun K hK => ?_)
      refine wp_valW (d := 82) rfl (ex_load (T := 5) rfl (agg_u8 _) rfl (hN.row.cell 1 (by simp))) ?_
      refine hK.out _ _ hS ?_
      clear hK K
      try simp only [Act.put, List.setIfInBounds_toArray, List.set_cons_zero, List.set_cons_succ]
      refine H.tk (i := 14) (v := .int .u8 (x1.toNat : Int)) ?h14x14b hS ?_
      case h14x14b => exact (fun w hw => by go_simp; rw [HX1.out])
      try simp only [Act.put, List.setIfInBounds_toArray, List.set_cons_zero, List.set_cons_succ]
      refine H.tk (i := 15) (v := .pointer (some ⟨g, 0, none⟩)) ?h15x15b hS ?_
      case h15x15b => exact (fun w hw => by go_simp; intro e; exact absurd h6 (by rw [e]; decide))
      try simp only [Act.put, List.setIfInBounds_toArray, List.set_cons_zero, List.set_cons_succ]
      refine H.one (i := 16) (by simp only [List.getElem?_toArray, List.getElem?_cons_succ, List.getElem?_cons_zero]; rfl) (by kernel_rfl) (by kernel_rfl) (fun K hK => ?_)
      have cx := hN.row.cell 0 (by simp)
      have fx := hN.row.froz 0 (by simp)
      go_simp
      have hN' := hN.set 0 x0 (by simp)
      refine hK.out _ _ ⟨hN'.c0, hN'.c1⟩ ?_
      clear hK K hS hN cx fx
      have hN := hN'
      have hS := And.intro hN.c0 hN.c1
      clear hN'
      simp only [List.set_cons_zero] at hN
      generalize World.setCell _ ⟨g, 0, none⟩ _ = Y at *
      try simp only [Act.put, List.setIfInBounds_toArray, List.set_cons_zero, List.set_cons_succ]
      refine H.tk (i := 17) (v := .pointer (some ⟨g, 1, none⟩)) ?h17x16b hS ?_
      case h17x16b => exact (fun w hw => by go_simp; intro e; omega)
      try simp only [Act.put, List.setIfInBounds_toArray, List.set_cons_zero, List.set_cons_succ]
      refine H.one (i := 18) (by simp only [List.getElem?_toArray, List.getElem?_cons_succ, List.getElem?_cons_zero]; rfl) (by kernel_rfl) (by kernel_rfl) (fun K hK => ?_)
      have cx := hN.row.cell 1 (by simp)
      have fx := hN.row.froz 1 (by simp)
      go_simp
      have hN' := hN.set 1 x1 (by simp)
      refine hK.out _ _ ⟨hN'.c0, hN'.c1⟩ ?_
      clear hK K hS hN cx fx
      have hN := hN'
      have hS := And.intro hN.c0 hN.c1
      clear hN'
      simp only [List.set_cons_zero, List.set_cons_succ] at hN
      generalize World.setCell _ ⟨g, 1, none⟩ _ = Y at *
      try simp only [Act.put, List.setIfInBounds_toArray, List.set_cons_zero, List.set_cons_succ]
      refine wpAnyH_done (by kernel_rfl) ?_ _
      have T0 := Lib.hid hN.tl
      have HR := Lib.hid hN.row
      have HT := Lib.hid hN.tab
      have HB := Lib.hid hN.bel
      clear hN hS
      go_wp2_with (first | (refine Bk.wpList_loadK (b := w.heap.size) Tl.shT rfl _ rfl rfl T0.out rfl ?_))
      refine (P1.out _ HT.out).mono ?_
      intro r w11 hr
      obtain ⟨n1, rfl, hi, hp, hb⟩ := hr.at HL.out.1 HL.out.2
      have T0 := Lib.hid (T0.out.below hb)
      have HR := Lib.hid (HR.out.below hb)
      have HT := Lib.hid (HT.out.below hb)
      have HB := Lib.hid (bcall HB.out hb)
      clear hr
      go_upto_region 11 with (refine wpList_storeM (b := w11.heap.size) (m := M.zero) (m' := n1) rfl _ _ rfl rfl rfl (Bx.new w11 M.zero) ?_)
      change Code.wp _ _ _ _ ((w11.alloc (.cells M.zero.cells 25)).setRow w11.heap.size n1.cells)
      rw [World.setRow_alloc_new]
      have bel := balloc (Below.refl w11.heap.size w11) (.cells n1.cells 25)
      have T0 := Lib.hid (T0.out.below bel)
      have HR := Lib.hid (HR.out.below bel)
      have I1 := Lib.hid (hi.below bel)
      have HT := Lib.hid (HT.out.below bel)
      have HB := Lib.hid (bcall HB.out bel)
      have X1 := Lib.hid (Bx.new w11 n1)
      have H1 := Lib.hid hp
      clear hi hp hb bel
      generalize w11.alloc (.cells n1.cells 25) = V1 at *
      generalize w11.heap.size = g1 at *
      have q0 := T0.out.cell 0 (.int .i64 4) rfl
      have q1 := T0.out.cell 1 (.int .i64 a) rfl
      have cv := run_convert_bytes_back V1 42 9 5 ⟨g, 0, none⟩ cap (x0 :: x1 :: r) Tryd.underlying42 Tryd.underlying5 Tryd.underlying9 (fun j hj => by rw [Sx.add_at, Nat.zero_add]; exact HR.out.cell j hj)
      rw [HN2.out.2] at cv
      generalize (⟨(x0 :: x1 :: r).toArray⟩ : ByteArray) = d2 at *
      go_wp2_with fail
      refine (P2.out _ HT.out).mono ?_
      intro r w12 hr
      obtain ⟨n2, rfl, hi, hp, hb⟩ := hr.at HL.out.1 HL.out.2
      have X1 := Lib.hid (X1.out.below hb)
      have I1 := Lib.hid (I1.out.below hb)
      have HT := Lib.hid (HT.out.below hb)
      have HB := Lib.hid (bcall HB.out hb)
      clear hr
      go_upto_region 12 with (refine wpList_storeM (b := w12.heap.size) (m := M.zero) (m' := n2) rfl _ _ rfl rfl rfl (Bx.new w12 M.zero) ?_)
      change Code.wp _ _ _ _ ((w12.alloc (.cells M.zero.cells 25)).setRow w12.heap.size n2.cells)
      rw [World.setRow_alloc_new]
      have bel := balloc (Below.refl w12.heap.size w12) (.cells n2.cells 25)
      have X1 := Lib.hid (X1.out.below bel)
      have I1 := Lib.hid (I1.out.below bel)
      clear q0 q1 cv HR T0
      have I2 := Lib.hid (hi.below bel)
      have HT := Lib.hid (HT.out.below bel)
      have HB := Lib.hid (bcall HB.out bel)
      have X2 := Lib.hid (Bx.new w12 n2)
      have H2 := Lib.hid hp
      clear hi hp hb bel
      generalize w12.alloc (.cells n2.cells 25) = V2 at *
      generalize w12.heap.size = g2 at *
      have PS := Lib.hid (fun W h h' => RSame.rsame_any n1 n2 W h h')
      rw [H1.out.same H2.out, same_self] at PS
      go_wp2_with fail
      refine (awake_any _ HT.out).mono ?_
      rintro r w13 ⟨rfl, hb⟩
      have X1 := Lib.hid (X1.out.below hb)
      have I1 := Lib.hid (I1.out.below hb)
      have X2 := Lib.hid (X2.out.below hb)
      have I2 := Lib.hid (I2.out.below hb)
      have HT := Lib.hid (HT.out.below hb)
      have HB := Lib.hid (bcall HB.out hb)
      clear hb
      go_wp2_with (first | (refine st_yes (v := .agg (M.cells n1)) (by rfl) rfl (run_loadM (x := .tmp 6) rfl rfl X1.out) ?_) | (refine st_yes (v := .agg (M.cells n2)) (by rfl) rfl (run_loadM (x := .tmp 9) rfl rfl X2.out) ?_))
      refine (PS.out _ I1.out I2.out).mono ?_
      rintro r' w14 ⟨rfl, hb⟩
      have HB := Lib.hid (bcall HB.out hb)
      clear hb
      go_wp2
      go_ret
      exact ⟨rfl, HB.out⟩
    case wb12b =>
      refine wp_valW (d := 82) rfl (ex_load (T := 5) rfl (agg_u8 _) rfl (hN.row.cell 1 (by simp))) ?_
      refine hK.out _ _ hS ?_
      clear hK K
      try simp only [Act.put, List.setIfInBounds_toArray, List.set_cons_zero, List.set_cons_succ]
      refine H.tk (i := 14) (v := .int .u8 (x1.toNat : Int)) ?h14x17b hS ?_
      case h14x17b => exact (fun w hw => by go_simp; rw [HX1.out])
      try simp only [Act.put, List.setIfInBounds_toArray, List.set_cons_zero, List.set_cons_succ]
      refine H.one (i := 4) (by simp only [List.getElem?_toArray, List.getElem?_cons_succ, List.getElem?_cons_zero]; rfl) (by kernel_rfl) (by kernel_rfl) (fun K hK => ?_)
      refine wp_valW (d := 75) rfl (ex_load (T := 5) rfl (agg_u8 _) rfl (hN.row.cell 0 (by simp))) ?_
      refine hK.out _ _ hS ?_
      clear hK K
      try simp only [Act.put, List.setIfInBounds_toArray, List.set_cons_zero, List.set_cons_succ]
      refine H.tk (i := 8) (v := .int .u8 (x0.toNat : Int)) ?h8x18b hS ?_
      case h8x18b => exact (fun w hw => by go_simp; rw [HX0.out])
      try simp only [Act.put, List.setIfInBounds_toArray, List.set_cons_zero, List.set_cons_succ]
      refine H.tk (i := 15) (v := .pointer (some ⟨g, 0, none⟩)) ?h15x19b hS ?_
      case h15x19b => exact (fun w hw => by go_simp; intro e; exact absurd h6 (by rw [e]; decide))
      try simp only [Act.put, List.setIfInBounds_toArray, List.set_cons_zero, List.set_cons_succ]
      refine H.one (i := 16) (by simp only [List.getElem?_toArray, List.getElem?_cons_succ, List.getElem?_cons_zero]; rfl) (by kernel_rfl) (by kernel_rfl) (fun K hK => ?_)
      have cx := hN.row.cell 0 (by simp)
      have fx := hN.row.froz 0 (by simp)
      go_simp
      have hN' := hN.set 0 x0 (by simp)
      refine hK.out _ _ ⟨hN'.c0, hN'.c1⟩ ?_
      clear hK K hS hN cx fx
      have hN := hN'
      have hS := And.intro hN.c0 hN.c1
      clear hN'
      simp only [List.set_cons_zero] at hN
      generalize World.setCell _ ⟨g, 0, none⟩ _ = Y at *
      try simp only [Act.put, List.setIfInBounds_toArray, List.set_cons_zero, List.set_cons_succ]
      refine H.tk (i := 17) (v := .pointer (some ⟨g, 1, none⟩)) ?h17x20b hS ?_
      case h17x20b => exact (fun w hw => by go_simp; intro e; omega)
      try simp only [Act.put, List.setIfInBounds_toArray, List.set_cons_zero, List.set_cons_succ]
      refine H.one (i := 18) (by simp only [List.getElem?_toArray, List.getElem?_cons_succ, List.getElem?_cons_zero]; rfl) (by kernel_rfl) (by kernel_rfl) (fun K hK => ?_)
      have cx := hN.row.cell 1 (by simp)
      have fx := hN.row.froz 1 (by simp)
      go_simp
      have hN' := hN.set 1 x1 (by simp)
      refine hK.out _ _ ⟨hN'.c0, hN'.c1⟩ ?_
      clear hK K hS hN cx fx
      have hN := hN'
      have hS := And.intro hN.c0 hN.c1
      clear hN'
      simp only [List.set_cons_zero, List.set_cons_succ] at hN
      generalize World.setCell _ ⟨g, 1, none⟩ _ = Y at *
      try simp only [Act.put, List.setIfInBounds_toArray, List.set_cons_zero, List.set_cons_succ]
      refine wpAnyH_done (by kernel_rfl) ?_ _
      have T0 := Lib.hid hN.tl
      have HR := Lib.hid hN.row
      have HT := Lib.hid hN.tab
      have HB := Lib.hid hN.bel
      clear hN hS
      go_wp2_with (first | (refine Bk.wpList_loadK (b := w.heap.size) Tl.shT rfl _ rfl rfl T0.out rfl ?_))
      refine (P1.out _ HT.out).mono ?_
      intro r w11 hr
      obtain ⟨n1, rfl, hi, hp, hb⟩ := hr.at HL.out.1 HL.out.2
      have T0 := Lib.hid (T0.out.below hb)
      have HR := Lib.hid (HR.out.below hb)
      have HT := Lib.hid (HT.out.below hb)
      have HB := Lib.hid (bcall HB.out hb)
      clear hr
      go_upto_region 11 with (refine wpList_storeM (b := w11.heap.size) (m := M.zero) (m' := n1) rfl _ _ rfl rfl rfl (Bx.new w11 M.zero) ?_)
      change Code.wp _ _ _ _ ((w11.alloc (.cells M.zero.cells 25)).setRow w11.heap.size n1.cells)
      rw [World.setRow_alloc_new]
      have bel := balloc (Below.refl w11.heap.size w11) (.cells n1.cells 25)
      have T0 := Lib.hid (T0.out.below bel)
      have HR := Lib.hid (HR.out.below bel)
      have I1 := Lib.hid (hi.below bel)
      have HT := Lib.hid (HT.out.below bel)
      have HB := Lib.hid (bcall HB.out bel)
      have X1 := Lib.hid (Bx.new w11 n1)
      have H1 := Lib.hid hp
      clear hi hp hb bel
      generalize w11.alloc (.cells n1.cells 25) = V1 at *
      generalize w11.heap.size = g1 at *
      have q0 := T0.out.cell 0 (.int .i64 4) rfl
      have q1 := T0.out.cell 1 (.int .i64 a) rfl
      have cv := run_convert_bytes_back V1 42 9 5 ⟨g, 0, none⟩ cap (x0 :: x1 :: r) Tryd.underlying42 Tryd.underlying5 Tryd.underlying9 (fun j hj => by rw [Sx.add_at, Nat.zero_add]; exact HR.out.cell j hj)
      rw [HN2.out.2] at cv
      generalize (⟨(x0 :: x1 :: r).toArray⟩ : ByteArray) = d2 at *
      go_wp2_with fail
      refine (P2.out _ HT.out).mono ?_
      intro r w12 hr
      obtain ⟨n2, rfl, hi, hp, hb⟩ := hr.at HL.out.1 HL.out.2
      have X1 := Lib.hid (X1.out.below hb)
      have I1 := Lib.hid (I1.out.below hb)
      have HT := Lib.hid (HT.out.below hb)
      have HB := Lib.hid (bcall HB.out hb)
      clear hr
      go_upto_region 12 with (refine wpList_storeM (b := w12.heap.size) (m := M.zero) (m' := n2) rfl _ _ rfl rfl rfl (Bx.new w12 M.zero) ?_)
      change Code.wp _ _ _ _ ((w12.alloc (.cells M.zero.cells 25)).setRow w12.heap.size n2.cells)
      rw [World.setRow_alloc_new]
      have bel := balloc (Below.refl w12.heap.size w12) (.cells n2.cells 25)
      have X1 := Lib.hid (X1.out.below bel)
      have I1 := Lib.hid (I1.out.below bel)
      clear q0 q1 cv HR T0
      have I2 := Lib.hid (hi.below bel)
      have HT := Lib.hid (HT.out.below bel)
      have HB := Lib.hid (bcall HB.out bel)
      have X2 := Lib.hid (Bx.new w12 n2)
      have H2 := Lib.hid hp
      clear hi hp hb bel
      generalize w12.alloc (.cells n2.cells 25) = V2 at *
      generalize w12.heap.size = g2 at *
      have PS := Lib.hid (fun W h h' => RSame.rsame_any n1 n2 W h h')
      rw [H1.out.same H2.out, same_self] at PS
      go_wp2_with fail
      refine (awake_any _ HT.out).mono ?_
      rintro r w13 ⟨rfl, hb⟩
      have X1 := Lib.hid (X1.out.below hb)
      have I1 := Lib.hid (I1.out.below hb)
      have X2 := Lib.hid (X2.out.below hb)
      have I2 := Lib.hid (I2.out.below hb)
      have HT := Lib.hid (HT.out.below hb)
      have HB := Lib.hid (bcall HB.out hb)
      clear hb
      go_wp2_with (first | (refine st_yes (v := .agg (M.cells n1)) (by rfl) rfl (run_loadM (x := .tmp 6) rfl rfl X1.out) ?_) | (refine st_yes (v := .agg (M.cells n2)) (by rfl) rfl (run_loadM (x := .tmp 9) rfl rfl X2.out) ?_))
      refine (PS.out _ I1.out I2.out).mono ?_
      rintro r' w14 ⟨rfl, hb⟩
      have HB := Lib.hid (bcall HB.out hb)
      clear hb
      go_wp2
      go_ret
      exact ⟨rfl, HB.out⟩
  · have HN2 := Lib.hid (HNz.out c0 (fun e => by omega) (fun _ => rfl))
    have P2 := Lib.hid (fun V q => PD.out c0 V q HN2.out.2)
    rw [HN2.out.1] at P2
    clear HNz PD
    generalize outF 5 d = p at *
    obtain ⟨q, y, x⟩ := p
    simp only [] at HL
    have e1 := bool_same y
    have e2 := int_same x
    go_enter Tryd.func6, Tryd.ntmps6
    go_upto_region 1 with fail
    change Code.wp _ _ _ _ ((w.alloc (.cells (cellsT (a, (d, 5))) 31)).alloc (.cells #[.int .u8 (k0 : Int), .int .u8 (k1 : Int)] 41))
    have bel := balloc (balloc (Below.refl _ w) (.cells (cellsT (a, (d, 5))) 31)) (.cells #[.int .u8 (k0 : Int), .int .u8 (k1 : Int)] 41)
    have N0 := Bk.Bk.new 41 (w.alloc (.cells (cellsT (a, (d, 5))) 31)) #[.int .u8 (k0 : Int), .int .u8 (k1 : Int)]
    rw [Bk.alloc_size] at N0
    have N0 := Lib.hid N0
    have T0 := Lib.hid ((Bk.Bk.new 31 w (cellsT (a, (d, 5)))).old (.cells #[.int .u8 (k0 : Int), .int .u8 (k1 : Int)] 41))
    have HT := Lib.hid (HT0.out.below bel)
    have HB := Lib.hid bel
    clear bel
    generalize (w.alloc (.cells (cellsT (a, (d, 5))) 31)).alloc (.cells #[.int .u8 (k0 : Int), .int .u8 (k1 : Int)] 41) = V at *
    have q0 := T0.out.cell 0 (.int .i64 5) rfl
    have q2 := T0.out.cell 2 (.string d) rfl
    have CV := run_bytes_of_string (P := Tryd.prog) V 9 42 5 d Tryd.underlying9 Tryd.underlying42 Tryd.underlying5
    have HNV := Lib.hid (HNEW.out V (grownCap V d.size 0 5) (bytesRow d (grownCap V d.size 0 5)).size (by unfold bytesRow; simp))
    go_upto_region 4 with (first | (refine st_made (by rfl) rfl (ex_bytes (x := .tmp 39) rfl rfl CV) ?_))
    change Code.wp _ _ _ _ (V.drew.alloc (.cells (bytesRow d (grownCap V d.size 0 5)) 5 ((bytesRow d (grownCap V d.size 0 5)).size, (bytesRow d (grownCap V d.size 0 5)).size + 1)))
    generalize hcap : grownCap V d.size 0 5 = cap at *
    clear CV hcap
    have bel := (Below.refl V.heap.size V).drew.alloc (Nat.le_refl _) (.cells (bytesRow d cap) 5 ((bytesRow d cap).size, (bytesRow d cap).size + 1))
    have hN : Ns w a 5 d (k0 : Int) (k1 : Int) V.heap.size (c0 :: c1 :: r) _ := ⟨T0.out.below bel, (N0.out.below bel).cell 0 _ rfl, (N0.out.below bel).cell 1 _ rfl, HNV.out, HT.out.below bel, bcall HB.out bel, N0.out.lt⟩
    clear bel T0 N0 HT HB HNV q0 q2
    generalize V.drew.alloc (.cells (bytesRow d cap) 5 ((bytesRow d cap).size, (bytesRow d cap).size + 1)) = V2 at *
    generalize V.heap.size = g at *
    have q0 := hN.tl.cell 0 (.int .i64 5) rfl
    have hN := Lib.hid hN
    go_upto_region 5 with fail
    refine wp_region_held_drew (S := fun W => W.cell? ⟨w.heap.size + 1, 0, none⟩ = some (.int .u8 (k0 : Int)) ∧ W.cell? ⟨w.heap.size + 1, 1, none⟩ = some (.int .u8 (k1 : Int))) (by kernel_rfl) ⟨hN.out.drew.c0, hN.out.drew.c1⟩ (fun hS => ?_)
    have hN := hN.out.drew
    clear q0
    generalize V2.drew = X0 at *
    refine H.tk (i := 0) (v := ?v0x1c) ?h0x1c hS ?_
    case h0x1c => (intro w hw; go_simp; first | done | (with_reducible rfl))
    try simp only [Act.put, List.setIfInBounds_toArray, List.set_cons_zero, List.set_cons_succ]
    refine H.tk (i := 1) (v := ?v1x2c) ?h1x2c hS ?_
    case h1x2c => (intro w hw; go_simp; first | done | (with_reducible rfl))
    try simp only [Act.put, List.setIfInBounds_toArray, List.set_cons_zero, List.set_cons_succ]
    refine H.tk (i := 2) (v := .pointer (some ⟨g, 1, none⟩)) ?h2x3c hS ?_
    case h2x3c => exact (fun w hw => by go_simp; intro e; omega)
    try simp only [Act.put, List.setIfInBounds_toArray, List.set_cons_zero, List.set_cons_succ]
    refine H.tk (i := 4) (v := .pointer (some ⟨w.heap.size + 1, 1, none⟩)) ?h4x4c hS ?_
    case h4x4c => exact (fun w hw => by go_simp)
    try simp only [Act.put, List.setIfInBounds_toArray, List.set_cons_zero, List.set_cons_succ]
    refine H.tk (i := 5) (v := .int .u8 (k1 : Int)) ?h5x5c hS ?_
    case h5x5c => exact (fun w hw => by have c := hw.2; go_simp)
    try simp only [Act.put, List.setIfInBounds_toArray, List.set_cons_zero, List.set_cons_succ]
    refine H.one (i := 3) (by simp only [List.getElem?_toArray, List.getElem?_cons_succ, List.getElem?_cons_zero]; rfl) (by kernel_rfl) (by kernel_rfl) (fun K hK => ?_)
    refine wp_valW (d := 46) rfl (ex_load (T := 5) rfl (agg_u8 _) rfl (hN.row.cell 1 (by simp))) ?_
    refine hK.out _ _ hS ?_
    clear hK K
    try simp only [Act.put, List.setIfInBounds_toArray, List.set_cons_zero, List.set_cons_succ]
    refine H.tk (i := 6) (v := .int .u8 (x1.toNat : Int)) ?h6x6c hS ?_
    case h6x6c => exact (fun w hw => by go_simp; rw [HX1.out])
    try simp only [Act.put, List.setIfInBounds_toArray, List.set_cons_zero, List.set_cons_succ]
    refine H.tk (i := 7) (v := .pointer (some ⟨g, 1, none⟩)) ?h7x7c hS ?_
    case h7x7c => exact (fun w hw => by go_simp; intro e; omega)
    try simp only [Act.put, List.setIfInBounds_toArray, List.set_cons_zero, List.set_cons_succ]
    refine H.one (i := 8) (by simp only [List.getElem?_toArray, List.getElem?_cons_succ, List.getElem?_cons_zero]; rfl) (by kernel_rfl) (by kernel_rfl) (fun K hK => ?_)
    have cx := hN.row.cell 1 (by simp)
    have fx := hN.row.froz 1 (by simp)
    go_simp
    have hN' := hN.set 1 x1 (by simp)
    refine hK.out _ _ ⟨hN'.c0, hN'.c1⟩ ?_
    clear hK K hS hN cx fx
    have hN := hN'
    have hS := And.intro hN.c0 hN.c1
    clear hN'
    simp only [List.set_cons_zero, List.set_cons_succ] at hN
    generalize World.setCell _ ⟨g, 1, none⟩ _ = Y at *
    try simp only [Act.put, List.setIfInBounds_toArray, List.set_cons_zero, List.set_cons_succ]
    refine wpAnyH_done (by kernel_rfl) ?_ _
    have T0 := Lib.hid hN.tl
    have HR := Lib.hid hN.row
    have HT := Lib.hid hN.tab
    have HB := Lib.hid hN.bel
    clear hN hS
    go_wp2_with (first | (refine Bk.wpList_loadK (b := w.heap.size) Tl.shT rfl _ rfl rfl T0.out rfl ?_))
    refine (P1.out _ HT.out).mono ?_
    intro r w11 hr
    obtain ⟨n1, rfl, hi, hp, hb⟩ := hr.at HL.out.1 HL.out.2
    have T0 := Lib.hid (T0.out.below hb)
    have HR := Lib.hid (HR.out.below hb)
    have HT := Lib.hid (HT.out.below hb)
    have HB := Lib.hid (bcall HB.out hb)
    clear hr
    go_upto_region 11 with (refine wpList_storeM (b := w11.heap.size) (m := M.zero) (m' := n1) rfl _ _ rfl rfl rfl (Bx.new w11 M.zero) ?_)
    change Code.wp _ _ _ _ ((w11.alloc (.cells M.zero.cells 25)).setRow w11.heap.size n1.cells)
    rw [World.setRow_alloc_new]
    have bel := balloc (Below.refl w11.heap.size w11) (.cells n1.cells 25)
    have T0 := Lib.hid (T0.out.below bel)
    have HR := Lib.hid (HR.out.below bel)
    have I1 := Lib.hid (hi.below bel)
    have HT := Lib.hid (HT.out.below bel)
    have HB := Lib.hid (bcall HB.out bel)
    have X1 := Lib.hid (Bx.new w11 n1)
    have H1 := Lib.hid hp
    clear hi hp hb bel
    generalize w11.alloc (.cells n1.cells 25) = V1 at *
    generalize w11.heap.size = g1 at *
    have q0 := T0.out.cell 0 (.int .i64 5) rfl
    have q1 := T0.out.cell 1 (.int .i64 a) rfl
    have cv := run_convert_bytes_back V1 42 9 5 ⟨g, 0, none⟩ cap (c0 :: x1 :: r) Tryd.underlying42 Tryd.underlying5 Tryd.underlying9 (fun j hj => by rw [Sx.add_at, Nat.zero_add]; exact HR.out.cell j hj)
    rw [HN2.out.2] at cv
    generalize (⟨(c0 :: x1 :: r).toArray⟩ : ByteArray) = d2 at *
    go_wp2_with fail
    refine (P2.out _ HT.out).mono ?_
    intro r w12 hr
    obtain ⟨n2, rfl, hi, hp, hb⟩ := hr.at HL.out.1 HL.out.2
    have X1 := Lib.hid (X1.out.below hb)
    have I1 := Lib.hid (I1.out.below hb)
    have HT := Lib.hid (HT.out.below hb)
    have HB := Lib.hid (bcall HB.out hb)
    clear hr
    go_upto_region 12 with (refine wpList_storeM (b := w12.heap.size) (m := M.zero) (m' := n2) rfl _ _ rfl rfl rfl (Bx.new w12 M.zero) ?_)
    change Code.wp _ _ _ _ ((w12.alloc (.cells M.zero.cells 25)).setRow w12.heap.size n2.cells)
    rw [World.setRow_alloc_new]
    have bel := balloc (Below.refl w12.heap.size w12) (.cells n2.cells 25)
    have X1 := Lib.hid (X1.out.below bel)
    have I1 := Lib.hid (I1.out.below bel)
    clear q0 q1 cv HR T0
    have I2 := Lib.hid (hi.below bel)
    have HT := Lib.hid (HT.out.below bel)
    have HB := Lib.hid (bcall HB.out bel)
    have X2 := Lib.hid (Bx.new w12 n2)
    have H2 := Lib.hid hp
    clear hi hp hb bel
    generalize w12.alloc (.cells n2.cells 25) = V2 at *
    generalize w12.heap.size = g2 at *
    have PS := Lib.hid (fun W h h' => RSame.rsame_any n1 n2 W h h')
    rw [H1.out.same H2.out, same_self] at PS
    go_wp2_with fail
    refine (awake_any _ HT.out).mono ?_
    rintro r w13 ⟨rfl, hb⟩
    have X1 := Lib.hid (X1.out.below hb)
    have I1 := Lib.hid (I1.out.below hb)
    have X2 := Lib.hid (X2.out.below hb)
    have I2 := Lib.hid (I2.out.below hb)
    have HT := Lib.hid (HT.out.below hb)
    have HB := Lib.hid (bcall HB.out hb)
    clear hb
    go_wp2_with (first | (refine st_yes (v := .agg (M.cells n1)) (by rfl) rfl (run_loadM (x := .tmp 6) rfl rfl X1.out) ?_) | (refine st_yes (v := .agg (M.cells n2)) (by rfl) rfl (run_loadM (x := .tmp 9) rfl rfl X2.out) ?_))
    refine (PS.out _ I1.out I2.out).mono ?_
    rintro r' w14 ⟨rfl, hb⟩
    have HB := Lib.hid (bcall HB.out hb)
    clear hb
    go_wp2
    go_ret
    exact ⟨rfl, HB.out⟩

theorem own : ownKnob Tryd.prog.godebug = none := by kernel_rfl

set_option maxRecDepth 100000 in
theorem lifted (os : Os) (started : os.Started) (H : Type) (enc : TypeId × Value → H) :
    ReturnsInHanded {} Tryd.checked os 6 .any (fun w args => (Rows.fieldNoiseSpec.pre enc Tryd.prog Tryd.f6 Rows.fieldNoiseRow.domain false w args ∧ laidMetH Tryd.prog Rows.fieldNoiseRow.laid w) ∧ sizedMet enc Tryd.prog Tryd.f6 (OpenSpec.ofChange Rows.fieldNoiseSpec) false w args)
      (Rows.fieldNoiseSpec.post enc Tryd.prog Tryd.f6 false true false false) := by
  refine returnsInHanded_of_change_and (C := Tryd.checked) (X := fun w _ => laidMetH Tryd.prog Rows.fieldNoiseRow.laid w) (fun _ _ _ hh h => h.of_heap hh) own started (by kernel_rfl) Tryd.func6
    (ChangeSpec.witness_shaped (enc := enc) (C := Tryd.checked) (os := os) (X := fun w _ => laidMetH Tryd.prog Rows.fieldNoiseRow.laid w) false (World.laidAll Tryd.prog os Rows.fieldNoiseRow.laid) #[.agg #[.int .i64 0, .int .i64 0, .string ByteArray.empty], .agg #[.int .u8 0, .int .u8 0]] 8 (World.laidAll_os _ _ _)
      (World.shaped_of_ZipB (by kernel_rfl) (by kernel_rfl)) (by kernel_rfl) (by kernel_rfl) (by kernel_rfl)
      (by rw [MakeChecks.laidMetH_plain _ _ _ (by kernel_rfl)]; exact laidMet_laidAll _ (by kernel_rfl) (by kernel_rfl))) ?_
  intro W base args ds gs before hval0 hW _ _ hL0 _
  have hMet := of_laid hL0
  have hval : ∀ (j : Nat) t v, Tryd.f6.params[j]? = some t → args[j]? = some v → Value.okWide Tryd.prog W .any base t v := hval0
  have hW' := hW
  have hlt := fun x hx => hW'.lt x hx
  obtain ⟨p, q, hA0, hV, rfl, hfz, hnd⟩ := hW
  have hA : DataW.TrodAll enc Tryd.prog W 0 (fun _ => true) true Tryd.f6.params.toList args.toList ds p := hA0
  rw [Tryd.params6] at hA hval
  obtain ⟨v0, vs0, d0, ds0, p0, q0, hargs, rfl, rfl, h0, r0⟩ := trodAll_cons hA
  obtain ⟨v1, vs1, d1, ds1, p1, q1, rfl, rfl, rfl, h1, r1⟩ := trodAll_cons r0
  obtain ⟨rfl, rfl, rfl⟩ := trodAll_nil r1
  obtain rfl : args = #[v0, v1] := by cases args; simp_all
  obtain ⟨rfl, rfl⟩ := trodVars_none hV
  obtain ⟨a, d, t, rfl, hz⟩ := by_tlv (hval 0 31 v0 rfl rfl) h0
  obtain ⟨n0, n1, rfl, z0, z1, z2, z3⟩ := by_two (hval 1 41 v1 rfl rfl) h1
  clear hA0 hval0
  simp only [List.append_nil] at hW' hlt
  refine (walk a t d n0 n1 W hz z0 z1 z2 z3 hMet).mono fun e W' ⟨he, hg⟩ => ?_
  subst he
  exact ⟨_, rfl, _, _, _, [], _, [], hW', trodAll_mk1 (shut_bool Tryd.underlying4 _), (trodAll_cons_mk (again (by kernel_rfl) (of_decide_eq_true (by kernel_rfl)) h0 hg fun x hx => hlt x (by first | exact absurd hx (by simp) | simp [hx])) (trodAll_cons_mk (again (by kernel_rfl) (of_decide_eq_true (by kernel_rfl)) h1 hg fun x hx => hlt x (by first | exact absurd hx (by simp) | simp [hx])) trodAll_mk0)), rfl, hg.frame _, fun h => by cases h⟩

theorem over : Rows.FieldNoiseSaid :=
  OpenClaim.holds_of_wide 6 Tryd.f6 rfl rfl rfl rfl rfl rfl rfl ⟨rfl, rfl, rfl, rfl, rfl⟩ rfl rfl rfl rfl rfl (by kernel_rfl) Tryd.func6 (by kernel_rfl)
    (of_decide_eq_true (by kernel_rfl)) (by unfold Func.isWrapper; first | (rw [if_pos (by decide +kernel)]; kernel_rfl) | (rw [if_neg (by decide +kernel)]; exact ⟨rfl, rfl⟩))
    (fun os started H enc _ => lifted os started H enc)

theorem proved : Rows.FieldNoiseCardSaid :=
  Claim7.holds_tied_plain_at .later [] _ true _ _
    over (fun _ h => by cases h) (by kernel_rfl) (fun _ h => by cases h) fieldNoise_row_tie rfl ⟨rfl, rfl⟩ (by kernel_rfl) rfl
    (fun f fn hf hfn => by
      obtain rfl : f = 6 := Option.some.inj ((show Tryd.prog.funcNamed "roadbook/roadbooklaw20.FieldNoise" = some 6 by kernel_rfl).symm.trans hf) |>.symm
      obtain rfl : fn = Tryd.f6 := (Option.some.inj (Tryd.func6.symm.trans hfn)).symm
      exact ⟨by kernel_rfl, fun j t ht => by
        rw [Tryd.params6] at ht
        have hm : t ∈ [31, 41] := by simpa using Array.mem_of_getElem? ht
        have hall : ([31, 41].all fun u => !Tryd.prog.wantsStandIn u) = true := by kernel_rfl
        exact (show Tryd.prog.wantsStandIn t = false by simpa using List.all_eq_true.1 hall t hm)⟩)
    (by kernel_rfl)
#print axioms proved
end Go.Proofs.YtlfgfmhpcokjpaaDoor.fieldNoise
