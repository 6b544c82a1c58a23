/-
  Bytes that may be any: a request is the same. No conditions.
-/
import Derived.Test.YtkhdllhlhpkekaaDoorJ9
import Derived.Laws.BitsAllLaws
import Derived.Laws.IdiomStrings
namespace Go.Proofs.YtkhdllhlhpkekaaDoor.Nz
open Go.ChangeShapes Go.WideShapes Go.ChangeAt Go.RowKit
open Go.Proofs.YtkhdllhlhpkekaaDoor.Ms
open Go.Proofs.YtkhdllhlhpkekaaDoor.Box
open Go.Proofs.YtkhdllhlhpkekaaDoor.S1
open Go.Proofs.YtkhdllhlhpkekaaDoor.J1
open Go.Proofs.YtkhdllhlhpkekaaDoor.An
open Go.Proofs.YtkhdllhlhpkekaaDoor.Tc
open Go.Proofs.YtkhdllhlhpkekaaDoor.J9
open Go.Proofs.YtkhdllhlhpkekaaDoor.Hs
open Go.Proofs.YtkhdllhlhpkekaaDoor.Open
set_option linter.unusedVariables false
set_option maxRecDepth 100000
open Go.Proofs.YtkhdllhlhpkekaaDoor.Tl (cellsT)
open Go.Proofs.YtkhdllhlhpkekaaDoor.Or (st_yes)
open Go.Proofs.YtkhdllhlhpkekaaDoor.Hx (ex_built)
open Go.Proofs.YtkhdllhlhpkekaaDoor.Bk (Bk)
open Go.Proofs.YtkhdllhlhpkekaaDoor.J4 (shU wpList_loadU wpList_storeU)
open Go.Proofs.YtkhdllhlhpkekaaDoor.J6 (AnsU)
open Go.Proofs.YtkhdllhlhpkekaaDoor.F1 (bt bt_nn bt_lt)
open Go.Proofs.YtkhdllhlhpkekaaDoor.Hy
open Go.Proofs.YtkhdllhlhpkekaaDoor.Or (ex_load)
open Go.Proofs.YtkhdllhlhpkekaaDoor.Pre (leastN)
open Go.Proofs.YtkhdllhlhpkekaaDoor.Bits (keepL mask)
open Go.Proofs.YtkhdllhlhpkekaaDoor.Nu (text_eq ext_list)
theorem st_made {P : Program} {ops : Array Oper} {Q : Exit → Act → World → Prop} {A : Act} {w w' : World} {rest : List Oper} {o : Oper} {d : Nat} {v : Value} (hw : Region.wanted o (yielded ops A.tmps) = true) (hd : o.dst = some d) (hy : (execOp A.eval o).run P w = .ok (.value v) w')
    (h : wpList P ops Q rest (A.put (some d) v) w') : wpList P ops Q (o :: rest) A w :=
  wpList_step fun K hK => by
    rw [if_pos hw]
    unfold Oper.wp
    rw [hy]
    simp only [Oper.upon, hd]
    exact hK _ _ h
theorem ex_bytes {o : Oper} {ρ : Operand → Value} {x : Operand} {v u : Value} {w w' : World} (ho : o.op = .convert 9 52 x) (hx : ρ x = v) (h : (convert 9 52 v).run Tryd.prog w = .ok u w') :
    (execOp ρ o).run Tryd.prog w = .ok (.value u) w' := by
  unfold execOp
  simp only [ho, hx, Sem.run_bind, h, Result.andThen_ok, Sem.run_pure]
theorem agg_u8 (w : World) : (isAgg 5).run Tryd.prog w = .ok false w := by go_simp
/-- Block b holds the bytes l, and may be written. -/
structure Rw (b : Nat) (l : List UInt8) (W : World) : Prop where
  lt : b < W.heap.size
  cell : ∀ j (h : j < l.length), W.cell? ⟨b, j, none⟩ = some (.int .u8 (l[j].toNat : Int))
  froz : ∀ j, j < l.length → W.frozen? ⟨b, j, none⟩ = false
theorem Rw.below {b : Nat} {l : List UInt8} {W W' : World} (h : Rw b l W) (hb : Below W.heap.size W W') : Rw b l W' :=
  ⟨Nat.lt_of_lt_of_le h.lt hb.size, fun j hj => (hb.cell h.lt).trans (h.cell j hj), fun j hj => (hb.frozen h.lt).trans (h.froz j hj)⟩
theorem Rw.drew {b : Nat} {l : List UInt8} {W : World} (h : Rw b l W) : Rw b l W.drew := ⟨h.lt, h.cell, h.froz⟩
theorem Rw.set {b : Nat} {l : List UInt8} {W : World} (h : Rw b l W) (i : Nat) (c : UInt8) (hi : i < l.length) : Rw b (l.set i c) (W.setCell ⟨b, i, none⟩ (.int .u8 (c.toNat : Int))) := by
  refine ⟨by simpa [World.setCell] using h.lt, fun j hj => ?_, fun j hj => ?_⟩
  · have hj' : j < l.length := by simpa using hj
    by_cases e : i = j
    · subst e
      rw [World.cell?_setCell_same (h := h.cell i hi)]
      simp
    · rw [World.cell?_setCell_other (h := by intro x; cases x; exact e rfl), h.cell j hj']
      simp [List.getElem_set_ne e]
  · rw [World.frozen?_setCell]
    exact h.froz j (by simpa using hj)
theorem rw_of (Y : World) (b : Nat) (d : ByteArray) (l : List UInt8) (hl : d.data.toList = l) (cap n : Nat) (hn : d.size ≤ n) (hh : Y.heap[b]? = some (.cells (bytesRow d cap) 5 (n, n + 1))) : Rw b l Y := by
  have hz : l.length = d.size := by rw [← hl, size_list]
  refine ⟨(Array.getElem?_eq_some_iff.1 hh).1, fun j hj => ?_, fun j hj => ?_⟩
  · rw [cell_of_row _ _ _ _ _ _ hh]
    have hj2 : j < d.data.size := by subst hl; simpa using hj
    subst hl
    unfold bytesRow
    rw [Array.getElem?_append_left (by simpa using hj2)]
    simp
    exact ⟨_, Array.getElem?_eq_getElem hj2, rfl⟩
  · simp [World.frozen?, hh]
    omega
theorem rw_new (V : World) (d : ByteArray) (l : List UInt8) (hl : d.data.toList = l) (cap : Nat) (n : Nat) (hn : d.size ≤ n) : Rw V.heap.size l (V.drew.alloc (.cells (bytesRow d cap) 5 (n, n + 1))) :=
  rw_of _ _ d l hl cap n hn (heap_alloc_new V.drew _)
theorem xor_byte (c : UInt8) (k : Nat) (hk : k < 256) : ∃ x : UInt8, bits .xor .u8 (c.toNat : Int) (k : Int) = (x.toNat : Int) ∧ x.toNat = c.toNat ^^^ k := by
  have hc := c.toNat_lt
  have h : c.toNat ^^^ k < 2 ^ 8 := Nat.xor_lt_two_pow (by omega) (by omega)
  refine ⟨UInt8.ofNat (c.toNat ^^^ k), ?_, ?_⟩
  · rw [u8_xor_nat _ _ (by omega) hk, UInt8.toNat_ofNat', Nat.mod_eq_of_lt h]
  · rw [UInt8.toNat_ofNat', Nat.mod_eq_of_lt h]
theorem Rw.at {b : Nat} {l : List UInt8} {W : World} (h : Rw b l W) (i : Nat) (c : UInt8) (hc : l[i]? = some c) : W.cell? ⟨b, i, none⟩ = some (.int .u8 (c.toNat : Int)) := by
  obtain ⟨hi, e⟩ := List.getElem?_eq_some_iff.1 hc
  rw [h.cell i hi, e]
theorem indexB (g n c i : Nat) (h : i < n) (W : World) : (Instr.indexAt 52 (.slice (some ⟨g, 0, none⟩) n c) (.int .i64 (i : Int))).run Tryd.prog W = .ok (.pointer (some ⟨g, i, none⟩)) W := by
  have he : Tryd.prog.elem 52 = 5 := by simp [Program.elem, Tryd.underlying52]
  have hz : (sizeOf 5).run Tryd.prog W = .ok 1 W := by go_simp
  rw [run_indexAt_slice W 52 ⟨g, 0, none⟩ n c .i64 (i : Int) (by rw [he]; exact Tryd.underlying52), if_pos (by omega), he, hz]
  simp only [Result.andThen_ok, Int.toNat_natCast]
  rw [Sx.add_at]
  simp
/-- A list that has but other bytes without a name ahead of the prefix. -/
structure Nz (t : Int) (d : ByteArray) (L : List UInt8) : Prop where
  len : L.length = d.size
  low : ∀ i, i < szJ t → i ≠ 5 → d.data.toList.getD i 0 = L.getD i 0
  high : L.drop (szJ t) = d.data.toList.drop (szJ t)
theorem set_get {l : List UInt8} {i j : Nat} (c : UInt8) (h : i ≠ j) : (l.set i c).getD j 0 = l.getD j 0 := by
  simp [List.getD, List.getElem?_set_ne h]
theorem Nz.refl (t : Int) (d : ByteArray) : Nz t d d.data.toList := ⟨size_list d, fun _ _ _ => rfl, rfl⟩
theorem Nz.five (d : ByteArray) (c : UInt8) : Nz 10 d (d.data.toList.set 5 c) := ⟨by rw [List.length_set, size_list], fun i _ hi => (set_get c (Ne.symm hi)).symm, by
  show (d.data.toList.set 5 c).drop 14 = d.data.toList.drop 14
  rw [List.drop_set]; simp⟩
theorem mk_sz (L : List UInt8) : (⟨L.toArray⟩ : ByteArray).size = L.length := J1.mk_size L
section
variable {t : Int} {d : ByteArray} {x : En} {L : List UInt8}
theorem noiseB (ht : t = 9 ∨ t = 10) (g : Got d (szJ t) (bt d 0) (bt d 1) 0 x) (k : x.known = true) (q : kindB (hdJ t d) = true) (z : Nz t d L) : outJ t ⟨L.toArray⟩ = outJ t d := by
  have hd : ∀ n, L.drop (szJ t + n) = d.data.toList.drop (szJ t + n) := fun n => by rw [← List.drop_drop, ← List.drop_drop, z.high]
  refine out_noise (d' := ⟨L.toArray⟩) ht g k q (by rw [mk_sz L, z.len]) z.low ?_ (by unfold restN; exact (hd _).symm)
  rw [ext_list, ext_list]
  show keepL ((d.data.toList.drop (szJ t)).take _) _ = keepL ((L.drop (szJ t)).take _) _
  rw [z.high]
theorem noiseA {c b : UInt8} {n r y pos : Nat} (ht : t = 9 ∨ t = 10) (g : Got d (szJ t) (bt d 0) (bt d 1) 0 x) (k : x.known = true) (q : kindB (hdJ t d) = true) (z : Nz t d L) (hn : countN (bt d 0) (bt d 1) = n) (n0 : 0 < n) (hr : (bt d 1).toNat % 8 = r) (r0 : 0 < r)
    (hp : pos = szJ t + n - 1) (hb : L[pos]? = some b) (hc : c.toNat = b.toNat ^^^ y) (hy : y < 2 ^ (8 - r)) : outJ t ⟨(L.set pos c).toArray⟩ = outJ t d := by
  have hlen := len_range g.len
  have hcl := count_le g.len
  have hre : restN (szJ t) (bt d 0) (bt d 1) 0 = szJ t + n := by unfold restN; rw [hn]; rfl
  have hsz := g.size
  rw [hre] at hsz
  have hps : szJ t ≤ pos := by omega
  have hd : (L.set pos c).drop (szJ t) = (d.data.toList.drop (szJ t)).set (n - 1) c := by
    rw [List.drop_set, if_neg (by omega), z.high, show pos - szJ t = n - 1 by omega]
  refine out_noise (d' := ⟨(L.set pos c).toArray⟩) ht g k q (by rw [mk_sz (L.set pos c), List.length_set, z.len]) (fun i hi h5 => ?_) ?_ ?_
  · rw [z.low i hi h5]
    exact (set_get c (by omega)).symm
  · rw [hre, ext_list, ext_list, Nat.add_sub_cancel_left]
    show keepL ((d.data.toList.drop (szJ t)).take n) _ = keepL (((L.set pos c).drop (szJ t)).take n) _
    rw [hd, List.take_set]
    have hl : ((d.data.toList.drop (szJ t)).take n).length = n := by rw [List.length_take, List.length_drop, size_list]; omega
    refine (keep_set _ (n - 1) _ c (by omega) ?_).symm
    have hbb : ((d.data.toList.drop (szJ t)).take n)[n - 1]'(by omega) = b := by
      have h1 : (L.drop (szJ t))[n - 1]? = some b := by rw [List.getElem?_drop, show szJ t + (n - 1) = pos by omega]; exact hb
      rw [z.high] at h1
      have h2 := (List.getElem?_eq_some_iff.1 h1).2
      rw [List.getElem_take]
      exact h2
    rw [hbb, hc]
    have e : (bt d 1).toNat - 8 * baseN (bt d 0) - 8 * (n - 1) = r := by
      have : leastN (bt d 1) = ((bt d 1).toNat + 7) / 8 := rfl
      omega
    rw [e]
    exact mask_xor _ _ _ (by omega) hy
  · rw [hre]
    show d.data.toList.drop (szJ t + n) = (L.set pos c).drop (szJ t + n)
    rw [List.drop_set, if_pos (by omega), ← List.drop_drop, ← List.drop_drop, z.high]
end
theorem and_high (k r : Nat) (hk : k < 256) (r0 : 0 < r) (r8 : r < 8) : bits .and .u8 (k : Int) ((255 / 2 ^ r : Nat) : Int) = ((k &&& (255 / 2 ^ r) : Nat) : Int) ∧ k &&& (255 / 2 ^ r) < 2 ^ (8 - r) := by
  have h : 255 / 2 ^ r < 2 ^ (8 - r) := by
    rcases (show r = 1 ∨ r = 2 ∨ r = 3 ∨ r = 4 ∨ r = 5 ∨ r = 6 ∨ r = 7 by omega) with rfl | rfl | rfl | rfl | rfl | rfl | rfl <;> decide
  have h2 : 255 / 2 ^ r < 256 := Nat.lt_of_le_of_lt (Nat.div_le_self _ _) (by omega)
  exact ⟨u8_and_nat k _ hk h2, Nat.and_lt_two_pow k h⟩
theorem shr_high (r : Nat) : ((255 : Int) / 2 ^ r) = ((255 / 2 ^ r : Nat) : Int) := by simp
end Go.Proofs.YtkhdllhlhpkekaaDoor.Nz
