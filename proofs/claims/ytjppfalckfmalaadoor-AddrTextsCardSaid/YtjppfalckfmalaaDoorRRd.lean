/-
  The document's Read: the address whose text it is, or none. Condition: a text of at most 1,000 bytes.
-/
import Derived.Test.YtjppfalckfmalaaDoorRTr
namespace Go.Proofs.YtjppfalckfmalaaDoor.RRd
open Go.ChangeShapes Go.WideShapes Go.ChangeAt Go.RowKit
open Go.Proofs.YtjppfalckfmalaaDoor.Sb
open Go.Proofs.YtjppfalckfmalaaDoor.Ad
open Go.Proofs.YtjppfalckfmalaaDoor.Tab
open Go.Proofs.YtjppfalckfmalaaDoor.Tr
open Go.Proofs.YtjppfalckfmalaaDoor.Wr
open Go.Proofs.YtjppfalckfmalaaDoor.RFo
open Go.Proofs.YtjppfalckfmalaaDoor.RNum
open Go.Proofs.YtjppfalckfmalaaDoor.RVal
open Go.Proofs.YtjppfalckfmalaaDoor.RPa
open Go.Proofs.YtjppfalckfmalaaDoor.RTr
set_option linter.unusedVariables false

theorem below_drawn {B : Nat} {a b w : World} (h : Below B a b) (k : ∃ n, w = b.drewN n) : Below B a w := by
  obtain ⟨n, rfl⟩ := k
  exact below_drewN h n

/-- The numbers so far are the first pieces'. -/
def Good (b z : Nat) (ps : List (List UInt8)) (k : Nat) (l : List UInt8) : Prop := l.length = k * z ∧ ∀ j, j < k → ps[j]? = some (num b (word z l j))
theorem good_zero (b z : Nat) (ps : List (List UInt8)) : Good b z ps 0 [] := ⟨by simp, fun j h => absurd h (Nat.not_lt_zero _)⟩
theorem good_succ {b z : Nat} {ps : List (List UInt8)} {k : Nat} {l : List UInt8} (h : Good b z ps k l) (hk : k < ps.length) (n : Nat) (hn : n < 256 ^ z) (e : ps[k] = num b n) : Good b z ps (k + 1) (l ++ putB z n) := by
  refine ⟨by simp [h.1, putB_length, Nat.succ_mul], ?_⟩
  intro j hj
  by_cases hjk : j = k
  · subst hjk
    rw [List.getElem?_eq_getElem hk, e, word_here z l j n h.1 hn]
  · have hz : j * z + z ≤ k * z := by rw [← Nat.succ_mul]; exact Nat.mul_le_mul_right z (by omega)
    have hw : word z (l ++ putB z n) j = word z l j := by
      unfold word
      rw [List.drop_append_of_le_length (by rw [h.1]; omega), List.take_append_of_le_length (by simp [h.1]; omega)]
    rw [hw]; exact h.2 j (by omega)
theorem good_end {b z n : Nat} {ps : List (List UInt8)} {l : List UInt8} (h : Good b z ps n l) (hl : ps.length = n) : ps = (words z n l).map (num b) := by
  apply List.ext_getElem?
  intro j
  by_cases hj : j < n
  · rw [h.2 j hj]; simp [words, List.getElem?_range hj]
  · rw [List.getElem?_eq_none (by omega), List.getElem?_eq_none (by simp [words]; omega)]

theorem of4 {s : ByteArray} {l : List UInt8} (h : Good 10 1 (parts 46 s.data.toList) 4 l) (hl : (parts 46 s.data.toList).length = 4) : Of s ⟨l.toArray⟩ := by
  have hs : (⟨l.toArray⟩ : ByteArray).size = 4 := by simp [ByteArray.size, h.1]
  refine ⟨by unfold isA; simp [hs], ?_⟩
  rw [atxt4 _ hs]
  have e := good_end h hl
  have j := parts_join 46 s.data.toList
  rw [e] at j
  exact j
theorem of6 {s : ByteArray} {l : List UInt8} (h : Good 16 2 (parts 58 s.data.toList) 8 l) (hl : (parts 58 s.data.toList).length = 8) : Of s ⟨l.toArray⟩ := by
  have hs : (⟨l.toArray⟩ : ByteArray).size = 16 := by simp [ByteArray.size, h.1]
  refine ⟨by unfold isA; simp [hs], ?_⟩
  rw [atxt6 _ hs]
  have e := good_end h hl
  have j := parts_join 58 s.data.toList
  rw [e] at j
  exact j
/-- An address's text in its pieces. -/
theorem four {s a : ByteArray} (h : Of s a) (ha : a.size = 4) : parts 46 s.data.toList = (words 1 4 a.data.toList).map (num 10) := by
  rw [← h.2, atxt4 a ha]
  exact txt_parts 46 10 1 4 _ (by decide) (by decide) dot_no (by decide)
theorem sixt {s a : ByteArray} (h : Of s a) (ha : a.size = 16) : parts 58 s.data.toList = (words 2 8 a.data.toList).map (num 16) := by
  rw [← h.2, atxt6 a ha]
  exact txt_parts 58 16 2 8 _ (by decide) (by decide) colon_no (by decide)
theorem sixt_dots {s a : ByteArray} (h : Of s a) (ha : a.size = 16) : (parts 46 s.data.toList).length = 1 := by
  have hf : (46 : UInt8) ∉ s.data.toList := by
    rw [← h.2, atxt6 a ha]
    refine not_mem_join 46 58 (by decide) _ ?_
    intro p hp
    obtain ⟨k, _, rfl⟩ := List.mem_map.1 hp
    exact num_free 46 16 (by decide) (by decide) dot_no k
  have := parts_of 46 [s.data.toList] (by simp) (fun p hp => by obtain rfl := List.mem_singleton.1 hp; exact hf)
  rw [join_one] at this
  rw [this]; rfl
theorem none4 {s : ByteArray} (hl : (parts 46 s.data.toList).length = 4) {k : Nat} (hk : k < (parts 46 s.data.toList).length) (h : ∀ m, m < 256 → (parts 46 s.data.toList)[k] ≠ num 10 m) : ∀ a, ¬ Of s a := by
  refine of_none (fun a ha ho => ?_) (fun a ha ho => ?_)
  · have e := four ho ha
    have h1 : (parts 46 s.data.toList)[k]? = some ((parts 46 s.data.toList)[k]) := List.getElem?_eq_getElem hk
    rw [show (parts 46 s.data.toList)[k]? = some (num 10 (word 1 a.data.toList k)) by rw [e]; simp [words, List.getElem?_range (show k < 4 by omega)]] at h1
    exact h _ (word_lt 1 _ k) (Option.some.inj h1).symm
  · have := sixt_dots ho ha
    omega
theorem none6 {s : ByteArray} (hd : (parts 46 s.data.toList).length ≠ 4) (hl : (parts 58 s.data.toList).length = 8) {k : Nat} (hk : k < (parts 58 s.data.toList).length) (h : ∀ m, m < 65536 → (parts 58 s.data.toList)[k] ≠ num 16 m) : ∀ a, ¬ Of s a := by
  refine of_none (fun a ha ho => ?_) (fun a ha ho => ?_)
  · have e := congrArg List.length (four ho ha)
    simp [words] at e
    exact hd e
  · have e := sixt ho ha
    have h1 : (parts 58 s.data.toList)[k]? = some ((parts 58 s.data.toList)[k]) := List.getElem?_eq_getElem hk
    rw [show (parts 58 s.data.toList)[k]? = some (num 16 (word 2 a.data.toList k)) by rw [e]; simp [words, List.getElem?_range (show k < 8 by omega)]] at h1
    exact h _ (word_lt 2 _ k) (Option.some.inj h1).symm
theorem none_both {s : ByteArray} (hd : (parts 46 s.data.toList).length ≠ 4) (hl : (parts 58 s.data.toList).length ≠ 8) : ∀ a, ¬ Of s a := by
  refine of_none (fun a ha ho => ?_) (fun a ha ho => ?_)
  · have e := congrArg List.length (four ho ha)
    simp [words] at e
    exact hd e
  · have e := congrArg List.length (sixt ho ha)
    simp [words] at e
    exact hl e

theorem conv1 (w : World) (x : Int) (c : UInt8) (hx : x = (c.toNat : Int)) :
    (convert 37 9 (.slice (some ⟨w.heap.size, 0, none⟩) 1 1)).run Tryd.prog (w.alloc (.cells #[.int .u8 x] 5)) = .ok (.string ⟨[c].toArray⟩) (w.alloc (.cells #[.int .u8 x] 5)) := by
  subst hx
  refine run_convert_bytes_back (P := Tryd.prog) _ 37 9 5 ⟨w.heap.size, 0, none⟩ 1 [c] Tryd.underlying37 Tryd.underlying5 Tryd.underlying9 (fun j hj => ?_)
  match j, hj with
  | 0, _ => rw [Lib.add_plain, World.cell?_alloc_new]; rfl
theorem conv2 (w : World) (x y : Int) (c d : UInt8) (hx : x = (c.toNat : Int)) (hy : y = (d.toNat : Int)) :
    (convert 37 9 (.slice (some ⟨w.heap.size, 0, none⟩) 2 2)).run Tryd.prog (w.alloc (.cells #[.int .u8 x, .int .u8 y] 5)) = .ok (.string ⟨[c, d].toArray⟩) (w.alloc (.cells #[.int .u8 x, .int .u8 y] 5)) := by
  subst hx hy
  refine run_convert_bytes_back (P := Tryd.prog) _ 37 9 5 ⟨w.heap.size, 0, none⟩ 2 [c, d] Tryd.underlying37 Tryd.underlying5 Tryd.underlying9 (fun j hj => ?_)
  match j, hj with
  | 0, _ => rw [Lib.add_plain, World.cell?_alloc_new]; rfl
  | 1, _ => rw [Lib.add_plain, World.cell?_alloc_new]; rfl

set_option maxHeartbeats 16000000 in
set_option maxRecDepth 100000 in
theorem rread_any (s : ByteArray) (hs : s.size ≤ 1000) (w : World) :
    Calls Tryd.prog 22 #[.string s] w fun e w' => e = .returned (.tuple #[.string (rdA s), .bool (rdO s)]) ∧ Below w.heap.size w w' := by
  have HSZ := Lib.hid (show s.data.toList.length ≤ 1000 by simpa using hs)
  go_enter Tryd.func22, Tryd.ntmps22
  go_wp2_with fail
  refine (parts_any s 46 hs _).mono ?_
  rintro e w1 ⟨g, n, cap, rfl, hr1, hb1⟩
  go_wp2_with fail
  refine (parts_any s 58 hs _).mono ?_
  rintro e w2 ⟨g2, n2, cap2, rfl, hr2, hb2⟩
  have HR1 := Lib.hid (row_kept hr1 hb2)
  have HR2 := Lib.hid hr2
  have HB2 := Lib.hid (bcall hb1 hb2 hb1.size)
  have HN1 := Lib.hid hr1.1
  have HN2 := Lib.hid hr2.1
  clear hr1 hr2 hb1 hb2
  have HWB0 : Hid (Below w2.heap.size w2 w2) := Lib.hid (Below.refl _ _)
  by_cases h4 : n = 4
  · have hq : ((n : Int) == 4) = true := by rw [h4]; rfl
    have H4 := Lib.hid h4
    clear h4
    go_wp2
    go_loopw [6, 7] (fun v i wr => ∃ (k : Nat) (l : List UInt8), k ≤ 4 ∧ i = .int .i64 k ∧ v = .string ⟨l.toArray⟩ ∧ Hid (Good 10 1 (parts 46 s.data.toList) k l) ∧ Hid (Below w2.heap.size w2 wr)) (fun _ i _ => 4 - (intOf i).toNat)
    case atStart => exact ⟨0, [], by omega, rfl, rfl, Lib.hid (good_zero _ _ _), HWB0⟩
    case round =>
      obtain ⟨k, l, hk, rfl, rfl, HG, HW⟩ := hrel
      clear HWB0
      by_cases hkn : k < 4
      · have hkl : k < (parts 46 s.data.toList).length := by rw [HN1.out, H4.out]; exact hkn
        have hin : k < n := by rw [H4.out]; exact hkn
        have hcell : wr.cell? ⟨g, k, none⟩ = some (.string ⟨((parts 46 s.data.toList)[k]).toArray⟩) := cell_kept HW.out (row_cell HR1.out k hkl)
        have HPL := Lib.hid (piece_len 46 _ k hkl HSZ.out)
        have HY := Lib.hid (fun m hm e => good_succ (n := m) HG.out hkl hm e)
        have HX := Lib.hid (fun h => rd_no s (none4 (by rw [HN1.out]; exact H4.out) hkl h))
        generalize (parts 46 s.data.toList)[k] = p at *
        go_wp2_with fail
        refine (value10 ⟨p.toArray⟩ _ (by have := HPL.out; simp [ByteArray.size]; omega)).mono ?_
        rintro e w3 ⟨⟨r, rfl, hr⟩, hw3⟩
        have HW3 := Lib.hid (below_drawn HW.out hw3)
        clear HW hw3 hcell
        rcases hr with ⟨m, rfl, hm, hp⟩ | ⟨rfl, hp⟩
        · have HGN := Lib.hid (HY.out m (by omega) (by simpa using hp))
          have HLL : Hid (l.length ≤ 100) := Lib.hid (by have := HG.out.1; omega)
          have hcv := conv1 w3 (m : Int) (UInt8.ofNat m) (by simp; omega)
          have hcat := cat_at l [UInt8.ofNat m] (l ++ putB 1 m) (by have := HLL.out; omega) (by simp) rfl
          generalize UInt8.ofNat m = c at *
          have HMM := Lib.hid hm
          have hmI : (m : Int) < 256 := by omega
          clear HX HY HG hm hp hk
          go_wp2
          go_roundw
          case rel => exact ⟨k + 1, l ++ putB 1 m, by omega, by go_num, rfl, HGN, Lib.hid (HW3.out.alloc (HW3.out.size) _)⟩
          case measure => simp [intOf]; omega
        · have HXX := Lib.hid (HX.out (fun m hm => by have := hp m hm; simpa using this))
          clear HX HY hp
          go_wp2
          go_ret2
          rw [HXX.out.1, HXX.out.2]
          exact ⟨rfl, bcall HB2.out HW3.out HB2.out.size⟩
      · have HKE : Hid (k = 4) := Lib.hid (by omega)
        have HO : Hid (rdO s = true ∧ rdA s = ⟨l.toArray⟩) := Lib.hid (by
          have h := HG.out
          rw [HKE.out] at h
          exact rd_yes s _ (of4 h (by rw [HN1.out, H4.out])))
        go_wp2
        go_ret2
        rw [HO.out.1, HO.out.2]
        exact ⟨rfl, bcall HB2.out HW.out HB2.out.size⟩
  · have hq : ((n : Int) == 4) = false := by rw [beq_eq_false_iff_ne]; omega
    have H4 := Lib.hid h4
    clear h4
    by_cases h8 : n2 = 8
    · have hq2 : ((n2 : Int) != 8) = false := by rw [h8]; rfl
      have H8 := Lib.hid h8
      clear h8
      go_wp2
      go_loopw [6, 9] (fun v i wr => ∃ (k : Nat) (l : List UInt8), k ≤ 8 ∧ i = .int .i64 k ∧ v = .string ⟨l.toArray⟩ ∧ Hid (Good 16 2 (parts 58 s.data.toList) k l) ∧ Hid (Below w2.heap.size w2 wr)) (fun _ i _ => 8 - (intOf i).toNat)
      case atStart => exact ⟨0, [], by omega, rfl, rfl, Lib.hid (good_zero _ _ _), HWB0⟩
      case round =>
        obtain ⟨k, l, hk, rfl, rfl, HG, HW⟩ := hrel
        clear HWB0
        by_cases hkn : k < 8
        · have hkl : k < (parts 58 s.data.toList).length := by rw [HN2.out, H8.out]; exact hkn
          have hin : k < n2 := by rw [H8.out]; exact hkn
          have hcell : wr.cell? ⟨g2, k, none⟩ = some (.string ⟨((parts 58 s.data.toList)[k]).toArray⟩) := cell_kept HW.out (row_cell HR2.out k hkl)
          have HPL := Lib.hid (piece_len 58 _ k hkl HSZ.out)
          have HY := Lib.hid (fun m hm e => good_succ (n := m) HG.out hkl hm e)
          have HX := Lib.hid (fun h => rd_no s (none6 (by rw [HN1.out]; exact H4.out) (by rw [HN2.out]; exact H8.out) hkl h))
          generalize (parts 58 s.data.toList)[k] = p at *
          go_wp2_with fail
          refine (value16 ⟨p.toArray⟩ _ (by have := HPL.out; simp [ByteArray.size]; omega)).mono ?_
          rintro e w3 ⟨⟨r, rfl, hr⟩, hw3⟩
          have HW3 := Lib.hid (below_drawn HW.out hw3)
          clear HW hw3 hcell
          rcases hr with ⟨m, rfl, hm, hp⟩ | ⟨rfl, hp⟩
          · have HGN := Lib.hid (HY.out m (by omega) (by simpa using hp))
            have HLL : Hid (l.length ≤ 100) := Lib.hid (by have := HG.out.1; omega)
            have hcv := conv2 w3 ((m : Int) / 256) ((m : Int) % 256) (UInt8.ofNat (m / 256)) (UInt8.ofNat m) (by simp; omega) (by simp)
            have hcat := cat_at l [UInt8.ofNat (m / 256), UInt8.ofNat m] (l ++ putB 2 m) (by have := HLL.out; omega) (by simp) rfl
            generalize UInt8.ofNat (m / 256) = c1 at *
            generalize UInt8.ofNat m = c2 at *
            have HMM := Lib.hid hm
            have hmI : (m : Int) / 256 ≤ 255 := by omega
            clear HX HY HG hm hp hk
            go_wp2
            go_roundw
            case rel => exact ⟨k + 1, l ++ putB 2 m, by omega, by go_num, rfl, HGN, Lib.hid (HW3.out.alloc (HW3.out.size) _)⟩
            case measure => simp [intOf]; omega
          · have HXX := Lib.hid (HX.out (fun m hm => by have := hp m hm; simpa using this))
            clear HX HY hp
            go_wp2
            go_ret2
            rw [HXX.out.1, HXX.out.2]
            exact ⟨rfl, bcall HB2.out HW3.out HB2.out.size⟩
        · have HKE : Hid (k = 8) := Lib.hid (by omega)
          have HO : Hid (rdO s = true ∧ rdA s = ⟨l.toArray⟩) := Lib.hid (by
            have h := HG.out
            rw [HKE.out] at h
            exact rd_yes s _ (of6 h (by rw [HN2.out, H8.out])))
          go_wp2
          go_ret2
          rw [HO.out.1, HO.out.2]
          exact ⟨rfl, bcall HB2.out HW.out HB2.out.size⟩
    · have hq2 : ((n2 : Int) != 8) = true := by rw [bne_iff_ne]; omega
      have HX := Lib.hid (rd_no s (none_both (by rw [HN1.out]; exact H4.out) (by rw [HN2.out]; exact h8)))
      clear h8
      go_wp2
      go_ret2
      rw [HX.out.1, HX.out.2]
      exact ⟨rfl, HB2.out⟩
end Go.Proofs.YtjppfalckfmalaaDoor.RRd
