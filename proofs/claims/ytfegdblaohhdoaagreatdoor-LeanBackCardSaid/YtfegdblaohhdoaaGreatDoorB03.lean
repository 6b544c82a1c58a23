/-
  The calls that make bytes: Keep, and Clean, which asks it; and the document's own.
  The calls of layer 4, and the document's own: Least, Right, Cut, Fill, Lead.
  TLVs that have prefixes: prefixes in an encoding, which requests may be, their bytes, which request or Update a TLV says: definitions on values alone, and facts on them. No conditions.
  What is known at a place, which Updates may be, what a TLV makes of what is known and tells: definitions on values alone, and facts on them. No conditions.
  Whether a message has few parts, of few bytes (the document's guard). No condition.
  A region that draws its order: the store of a whole struct at its end, a struct built, a string's byte, a conversion. No conditions.
  A block of one's own that holds a struct's cells, whatever struct it is; an entry's fields; what fields' bytes are. No conditions.
-/
import Derived.Test.YtfegdblaohhdoaaGreatDoorB01
import Derived.Test.YtfegdblaohhdoaaGreatDoorB02
import Derived.OwnWalk
import Derived.Laws.CopyOwn
import Derived.Lib.BufferWrite
import Derived.Lib.MinMax
import Derived.IntWalk
import Derived.Laws.Rows
import Derived.Laws.Tables
import Derived.Deep.WholeRow
import Derived.Deep.DeepCutAuto
import Derived.Deep.Cut
namespace Go.Proofs.YtfegdblaohhdoaaGreatDoor.Bits
open Go.ChangeShapes Go.WideShapes Go.ChangeAt Go.RowKit
set_option linter.unusedVariables false
set_option maxRecDepth 100000

theorem info5 : (Tryz.prog.info? 5).map (fun i => (i.zero, i.size, i.bytes)) = some (some (.int .u8 0), 1, 1) := by kernel_rfl

/-- bytes, as the cells of a row -/
def cellsL (l : List UInt8) : List Value := l.map fun b => Value.int .u8 b.toNat

theorem cellsL_length (l : List UInt8) : (cellsL l).length = l.length := by simp [cellsL]

theorem conv_row (w : World) (g c : Nat) (base : Nat) (l : List UInt8) (n : Nat) (hn : l.length = n) (h : w.ownsRow base 5 1 (.slice (some ⟨g, 0, none⟩) n c) n (cellsL l)) :
    (convert 71 9 (.slice (some ⟨g, 0, none⟩) n c)).run Tryz.prog w = .ok (.string ⟨l.toArray⟩) w := by
  subst hn
  refine run_convert_bytes_back w 71 9 5 ⟨g, 0, none⟩ c l Tryz.underlying71 Tryz.underlying5 Tryz.underlying9 fun j hj => ?_
  have := h.cellAt j (by omega)
  simp [Addr.add_lit]
  rw [this]
  simp [cellsL, hj]

theorem ret_string {a b : ByteArray} (h : a = b) : Ending.returned (.string a) = .returned (.string b) := by rw [h]

/-- copy(row, s), s no longer than the row: its bytes stand at the row's head -/
theorem wpList_copy_str {P : Program} {w : World} {ops : Array Oper} {rest : List Oper} {o : Oper} {a : Act} {Q : Exit → Act → World → Prop} (hgd : o.guard = none) (d s : Operand) (dT sT : TypeId)
    (ho : o.op = .call { callee := .builtin .copy, args := #[d, s], argTypes := #[dT, sT] }) (elem : TypeId) (hu : P.underlying dT = some (.slice elem)) (hsz : (P.info? elem).map (·.size) = some 1)
    (g n : Nat) (hd : a.eval d = .slice (some ⟨g, 0, none⟩) n n) (t : ByteArray) (hs : a.eval s = .string t)
    (base : Nat) (xs : List Value) (hrow : w.ownsRow base elem 1 (.slice (some ⟨g, 0, none⟩) n n) n xs) (hle : t.size ≤ n)
    (h : ∀ w', w'.ownsRow base elem 1 (.slice (some ⟨g, 0, none⟩) n n) n (cellsL t.data.toList ++ xs.drop t.size) → w.grownBy w' (some g) → wpList P ops Q rest (a.put o.dst (goInt t.size)) w') :
    wpList P ops Q (o :: rest) a w := by
  obtain ⟨hlen, hrow⟩ := hrow
  rcases hrow with ⟨h', _⟩ | ⟨g', cap', cur, h', hb, hg, hnc, hcm, hcs, htake⟩
  · simp at h'
  · simp only [Value.slice.injEq, Option.some.injEq, Addr.mk.injEq, and_true, true_and] at h'
    obtain ⟨rfl, rfl⟩ := h'
    simp only [Nat.mul_one] at hlen hcs htake
    have hrun := Lib.run_copy_row_string (P := P) w dT sT o.type elem g 0 n n t cur elem hu hsz hg hle (by omega)
    have hxs : cur.toList = xs := by rw [← htake, List.take_of_length_le (by simp; omega)]
    have hnew : List.take 0 cur.toList ++ Lib.byteCells t.data.toList ++ List.drop (0 + t.size) cur.toList = cellsL t.data.toList ++ xs.drop t.size := by
      rw [hxs]; simp [Lib.byteCells, cellsL]
    rw [hnew] at hrun
    refine wpList_plain hgd fun K hK => ?_
    unfold Oper.wp
    simp [execOp, ho, resolve, invoke, builtin, hd, hs, hrun, Result.andThen]
    refine hK _ _ (h _ ⟨?_, .inr ⟨g, n, _, rfl, hb, setRow_heap w g _ _ elem _ hg, Nat.le_refl _, hcm, ?_, ?_⟩⟩ ⟨rfl, rfl, rfl, by simp [World.setRow], fun k _ hk => setRow_other w g k _ (fun e => hk (by rw [e]))⟩)
    · simp [cellsL_length]; omega
    · simp [cellsL_length]; omega
    · rw [Nat.mul_one]; exact List.take_of_length_le (by simp [cellsL_length]; omega)

theorem and_high (b r : Nat) (hb : b < 256) (h : r ≤ 8) : bits BinOp.and IntKind.u8 (b : Int) ((255 * 2 ^ (8 - r) % 256 : Nat) : Int) = ((mask b r : Nat) : Int) := by
  rw [u8_and_nat _ _ hb (by omega), mask_eq]
  congr 1
  have : r = 0 ∨ r = 1 ∨ r = 2 ∨ r = 3 ∨ r = 4 ∨ r = 5 ∨ r = 6 ∨ r = 7 ∨ r = 8 := by omega
  revert b
  rcases this with rfl | rfl | rfl | rfl | rfl | rfl | rfl | rfl | rfl <;> decide +kernel

set_option maxHeartbeats 800000 in
theorem keep_any (s : ByteArray) (n : Int) (w : World) (hs : s.size ≤ 1048576) :
    Calls Tryz.prog 135 #[.string s, .int .i64 n] w fun e w' => e = .returned (.string ⟨(keepL s.data.toList n.toNat).toArray⟩) ∧ Below w.heap.size w w' := by
  obtain ⟨i0, hi, hz0, hz1, hz2⟩ := info_parts info5
  have HK : Hid (keepL s.data.toList n.toNat = keepL s.data.toList (inZ s n)) := by
    have := keepL_min s.data.toList n.toNat
    rw [len_list] at this
    exact Lib.hid this.symm
  have hm : inZ s n ≤ 8 * s.size := by unfold inZ; omega
  have HW := Lib.hid (fun w => within_any s n w hs)
  generalize inZ s n = m at *
  go_enter Tryz.func135, Tryz.ntmps135
  go_wp2_with fail
  refine (HW.out _).mono ?_
  rintro e w1 ⟨rfl, rfl⟩
  clear HW
  go_wp2_with (at_make; refine wpList_make_full _ rfl _ _ 71 rfl w.heap.size 5 i0 (.int .u8 0) 1 Tryz.underlying71 hi hz0 hz1 _ _ _ _ s.size rfl rfl rfl rfl (by rw [hz2]; omega) (by unfold maxLen; omega) (by simp) ?_)
  intro w1 hown hgrow
  have HG := Lib.hid hgrow
  have HO := Lib.hid hown
  clear hgrow hown
  have hsz : (Tryz.prog.info? 5).map (·.size) = some 1 := by rw [hi]; simp [hz1]
  go_wp2_with (with_reducible refine wpList_copy_str rfl (.tmp 12) (.tmp 16) 71 9 rfl 5 Tryz.underlying71 hsz w.heap.size s.size rfl _ rfl w.heap.size _ HO.out ?_ ?_)
  · simp; omega
  intro w2 hown2 hgrow2
  have HB2 : Hid (Below w.heap.size w w2) := Lib.hid (((Below.refl _ _).grown HG.out (Nat.le_refl _) (fun k hk => by cases hk)).grown hgrow2 HG.out.size (fun k hk => by cases hk; exact Nat.le_refl _))
  have HO2 : Hid (w2.ownsRow w.heap.size 5 1 (.slice (some ⟨w.heap.size, 0, none⟩) s.size s.size) s.size (cellsL (s.data.toList.take (m / 8) ++ List.replicate (s.size - m / 8) 0))) := by
    have e : cellsL (s.data.toList.take (m / 8) ++ List.replicate (s.size - m / 8) 0) = cellsL (List.take (m / 8) s.data.toList) ++ List.drop (min (m / 8) s.size) (madeCells #[Value.int IntKind.u8 0] s.size).toList := by
      rw [toList_madeCells_one, Nat.min_eq_left (by omega)]
      simp [cellsL]
    exact Lib.hid (by rw [e]; exact hown2)
  clear hown2 hgrow2 HG HO hi hz0 hz1 hz2 hsz
  have HP := Lib.hid (keepL_parts s.data.toList m (by rw [len_list]; exact hm))
  rw [len_list] at HP
  by_cases h0 : m % 8 = 0
  · have HC : Hid (w2.ownsRow w.heap.size 5 1 (.slice (some ⟨w.heap.size, 0, none⟩) s.size s.size) s.size (cellsL (keepL s.data.toList n.toNat))) := by
      have := HP.out
      rw [if_pos h0] at this
      exact Lib.hid (by rw [HK.out, this]; exact HO2.out)
    have hc := conv_row w2 w.heap.size s.size w.heap.size (keepL s.data.toList n.toNat) s.size (by rw [keepL_length, len_list]) HC.out
    clear HC HO2 HP
    go_wp2
    go_ret
    exact ⟨rfl, HB2.out⟩
  · have hk : m / 8 < s.size := by omega
    have ho : ((m : Int) / 8).toNat = m / 8 := by omega
    have hfr := HO2.out.frozenAt ((m : Int) / 8).toNat
    obtain ⟨u, hcl⟩ : ∃ u, w2.cell? ⟨w.heap.size, ((m : Int) / 8).toNat, none⟩ = some u := by
      rw [HO2.out.cellAt _ (by omega)]
      exact ⟨_, List.getElem?_eq_getElem (by have := HO2.out.1; omega)⟩
    have HR : Hid (cellsL (keepL s.data.toList m) = (cellsL (s.data.toList.take (m / 8) ++ List.replicate (s.size - m / 8) 0)).set ((m : Int) / 8).toNat (.int .u8 ((mask s[m / 8].toNat (m % 8) : Nat) : Int))) := by
      have := HP.out
      rw [if_neg h0, getD_byte s (m / 8) hk] at this
      refine Lib.hid ?_
      rw [this, ho]
      unfold cellsL
      rw [List.map_set, ofNat_mask]
    have hand : bits BinOp.and IntKind.u8 (s[((m : Int) / 8).toNat].toNat : Int) ((255 * 2 ^ (8 - m % 8) % 256 : Nat) : Int) = ((mask s[m / 8].toNat (m % 8) : Nat) : Int) := by
      have := and_high s[m / 8].toNat (m % 8) (UInt8.toNat_lt _) (by omega)
      simp only [ho]
      exact this
    have HO' := Lib.hid ho
    clear ho
    generalize mask s[m / 8].toNat (m % 8) = mv at *
    have HH : Hid (∀ w, Calls Tryz.prog 145 #[.int .i64 ((m : Int) % 8)] w fun e w' => e = .returned (.int .u8 ((255 * 2 ^ (8 - m % 8) % 256 : Nat) : Int)) ∧ w = w') := by
      have := fun w => high_in (m % 8) w (by omega)
      rw [show ((m % 8 : Nat) : Int) = (m : Int) % 8 by omega] at this
      exact Lib.hid this
    generalize 255 * 2 ^ (8 - m % 8) % 256 = hv at *
    have hbd : (0 : Int) ≤ (m : Int) / 8 ∧ (m : Int) / 8 < (s.size : Int) := by omega
    have hq1 : IntKind.i64.wrap ((m : Int).tdiv 8) = (m : Int) / 8 := IntWalk.i64_quo _ _ (by omega)
    have hq2 : wrap64 ((m : Int).tdiv 8) = (m : Int) / 8 := by rw [← IntWalk.i64_left]; exact hq1
    have hq3 : IntKind.i64.wrap ((m : Int) / 8) = (m : Int) / 8 := IntWalk.i64_in _ (by omega)
    have hq4 : (m : Int).tdiv 8 = (m : Int) / 8 := Int.tdiv_eq_ediv_of_nonneg (by omega)
    have hq5 : (m : Int).tmod 8 = (m : Int) % 8 := Int.tmod_eq_emod_of_nonneg (by omega)
    have hq6 : IntKind.i64.wrap ((m : Int) % 8) = (m : Int) % 8 := IntWalk.i64_in _ (by omega)
    go_wp2
    go_region_with (go_at_call 145; refine (HH.out _).mono ?_; rintro e w9 ⟨rfl, rfl⟩)
    all_goals
      have HC : Hid ((w2.setCell ⟨w.heap.size, ((m : Int) / 8).toNat, none⟩ (.int .u8 (mv : Int))).drew.ownsRow w.heap.size 5 1 (.slice (some ⟨w.heap.size, 0, none⟩) s.size s.size) s.size (cellsL (keepL s.data.toList n.toNat))) := by
        have h3 := (HO2.out).stored ((m : Int) / 8).toNat (.int .u8 (mv : Int))
        refine Lib.hid ?_
        rw [HK.out, HR.out]
        exact World.ownsRow.drew h3.1
      have HB3 : Hid (Below w.heap.size w (w2.setCell ⟨w.heap.size, ((m : Int) / 8).toNat, none⟩ (.int .u8 (mv : Int))).drew) := Lib.hid ((HB2.out.setCell (Nat.le_refl _) _).drew)
      clear HO2 HP hcl hfr hand HB2 HR HK HO' hq1 hq2 hq3 hq4 hq5 hq6 HH
      generalize (w2.setCell ⟨w.heap.size, ((m : Int) / 8).toNat, none⟩ (.int .u8 (mv : Int))).drew = w3 at *
      have hc := conv_row w3 w.heap.size s.size w.heap.size (keepL s.data.toList n.toNat) s.size (by rw [keepL_length, len_list]) HC.out
      clear HC
      go_wp2
      go_ret
      exact ⟨rfl, HB3.out⟩

/-- a bit that is 0 may be kept or not -/
theorem keepL_skip (l : List UInt8) (i : Nat) (h : bitL l i = false) : keepL l (i + 1) = keepL l i := by
  apply list_ext (by simp [keepL_length])
  intro j _
  rw [bitL_keep, bitL_keep]
  by_cases e : j = i
  · rw [e, h]; simp
  · congr 1
    by_cases hj : j < i <;> simp [hj] <;> omega

theorem keepL_add (l : List UInt8) (i : Nat) (h : i < 8 * l.length) (hb : bitL l i = true) :
    cellsL (keepL l (i + 1)) = (cellsL (keepL l i)).set (i / 8) (.int .u8 ((mask (l.getD (i / 8) 0).toNat (i % 8) + 2 ^ (7 - i % 8) : Nat) : Int)) := by
  rw [keepL_set l i h]
  unfold cellsL
  rw [List.map_set, ofNat_mask, mask_next _ _ (UInt8.toNat_lt _) (by omega)]
  have e : bitN (l[i / 8]'(by omega)).toNat (i % 8) = true := by
    unfold bitL at hb
    rw [getD_in _ _ (show i / 8 < l.length by omega)] at hb
    exact hb
  rw [if_pos e, getD_in _ _ (show i / 8 < l.length by omega)]

theorem keepL_cell (l : List UInt8) (i : Nat) (h : i < 8 * l.length) : (cellsL (keepL l i))[i / 8]? = some (.int .u8 ((mask (l.getD (i / 8) 0).toNat (i % 8) : Nat) : Int)) := by
  have hk : i / 8 < (keepL l i).length := by rw [keepL_length]; omega
  unfold cellsL
  rw [List.getElem?_map, List.getElem?_eq_getElem hk]
  show some (Value.int .u8 (((keepL l i)[i / 8]).toNat : Int)) = _
  rw [keepL_get, getD_in _ _ (show i / 8 < l.length by omega)]
  congr 5
  omega

theorem mask_room (b p : Nat) (hb : b < 256) (hp : p < 8) : mask b p + 2 ^ (7 - p) < 256 := by
  rw [mask_eq]
  have : p = 0 ∨ p = 1 ∨ p = 2 ∨ p = 3 ∨ p = 4 ∨ p = 5 ∨ p = 6 ∨ p = 7 := by omega
  rcases this with rfl | rfl | rfl | rfl | rfl | rfl | rfl | rfl <;> simp <;> omega

theorem sum_byte (a k : Nat) (h : a + 2 ^ k < 256) : ((a : Int) + 2 ^ k) % 256 = ((a + 2 ^ k : Nat) : Int) := by
  have e : (2 : Int) ^ k = ((2 ^ k : Nat) : Int) := by simp
  rw [e]
  generalize 2 ^ k = q at *
  omega

set_option maxHeartbeats 800000 in
theorem rkeep_any (s : ByteArray) (n : Int) (w : World) (hs : s.size ≤ 1048576) :
    Calls Tryz.prog 90 #[.string s, .int .i64 n] w fun e w' => e = .returned (.string ⟨(keepL s.data.toList n.toNat).toArray⟩) ∧ Below w.heap.size w w' := by
  obtain ⟨i0, hi, hz0, hz1, hz2⟩ := info_parts info5
  have HK : Hid (keepL s.data.toList n.toNat = keepL s.data.toList (inZ s n)) := by
    have := keepL_min s.data.toList n.toNat
    rw [len_list] at this
    exact Lib.hid this.symm
  have hm : inZ s n ≤ 8 * s.size := by unfold inZ; omega
  have hmn : ∀ i : Nat, ((i : Int) < n ∧ i < 8 * s.size) ↔ i < inZ s n := by intro i; unfold inZ; omega
  generalize inZ s n = m at *
  have HMN := Lib.hid hmn
  clear hmn
  go_enter Tryz.func90, Tryz.ntmps90
  go_wp2_with (at_make; refine wpList_make_full _ rfl _ _ 71 rfl w.heap.size 5 i0 (.int .u8 0) 1 Tryz.underlying71 hi hz0 hz1 _ _ _ _ s.size rfl rfl rfl rfl (by rw [hz2]; omega) (by unfold maxLen; omega) (by simp) ?_)
  intro w1 hown hgrow
  have HB : Hid (Below w.heap.size w w1) := Lib.hid ((Below.refl _ _).grown hgrow (Nat.le_refl _) (fun k hk => by cases hk))
  have HO : Hid (w1.ownsRow w.heap.size 5 1 (.slice (some ⟨w.heap.size, 0, none⟩) s.size s.size) s.size (cellsL (keepL s.data.toList 0))) := by
    rw [keepL_none, len_list]
    have e : cellsL (List.replicate s.size (0 : UInt8)) = (madeCells #[Value.int .u8 0] s.size).toList := by rw [toList_madeCells_one]; simp [cellsL]
    rw [e]; exact Lib.hid hown
  clear hown hgrow hi hz0 hz1 hz2
  go_wp2
  go_loopw [6] (fun i wr => ∃ j : Nat, j ≤ m ∧ i = .int .i64 j ∧ Hid (wr.ownsRow w.heap.size 5 1 (.slice (some ⟨w.heap.size, 0, none⟩) s.size s.size) s.size (cellsL (keepL s.data.toList j))) ∧ Hid (Below w.heap.size w wr))
    (fun i _ => m - (intOf i).toNat)
  case atStart => exact ⟨0, Nat.zero_le _, rfl, HO, HB⟩
  case round =>
    obtain ⟨j, hj, rfl, HO1, HB1⟩ := hrel
    clear HO HB
    by_cases hlt : j < m
    · have hjn := ((HMN.out j).2 hlt).1
      have hj8 := ((HMN.out j).2 hlt).2
      by_cases hbit : bitL s.data.toList j = true
      · have hbz : bitZ s (j : Nat) = true := by rw [bitZ_nat]; exact hbit
        have hfr := HO1.out.frozenAt (j / 8)
        have hcl := (HO1.out.cellAt (j / 8) (by omega)).trans (keepL_cell s.data.toList j (by rw [len_list]; exact hj8))
        have hroom := mask_room (s.data.toList.getD (j / 8) 0).toNat (j % 8) (UInt8.toNat_lt _) (by omega)
        have HR := Lib.hid (keepL_add s.data.toList j (by rw [len_list]; exact hj8) hbit)
        generalize mask (s.data.toList.getD (j / 8) 0).toNat (j % 8) = mv at *
        clear hbit
        go_wp2_with fail
        refine (rbit_any _ _ _ hs).mono ?_
        rintro e w9 ⟨rfl, rfl⟩
        rw [hbz]
        clear hbz
        have HV := Lib.hid (sum_byte mv (7 - j % 8) hroom)
        go_wp2
        go_roundw
        case rel =>
          refine ⟨j + 1, by omega, by go_num, Lib.hid ?_, Lib.hid ?_⟩
          · have := (HO1.out.stored (j / 8) (.int .u8 ((mv + 2 ^ (7 - j % 8) : Nat) : Int))).1
            rw [← HR.out] at this
            rw [HV.out]
            exact this
          · exact HB1.out.setCell (Nat.le_refl _) _
        case measure => simp [intOf]; omega
      · have hbz : bitZ s (j : Nat) = false := by rw [bitZ_nat]; simpa using hbit
        have HR := Lib.hid (keepL_skip s.data.toList j (by simpa using hbit))
        clear hbit
        go_wp2_with fail
        refine (rbit_any _ _ _ hs).mono ?_
        rintro e w9 ⟨rfl, rfl⟩
        rw [hbz]
        clear hbz
        go_wp2
        go_roundw
        case rel => exact ⟨j + 1, by omega, by go_num, Lib.hid (by rw [HR.out]; exact HO1.out), HB1⟩
        case measure => simp [intOf]; omega
    · obtain rfl : j = m := by omega
      have hc := conv_row wr w.heap.size s.size w.heap.size (keepL s.data.toList n.toNat) s.size (by rw [keepL_length, len_list]) (by rw [HK.out]; exact HO1.out)
      have hend := (not_congr (HMN.out j)).2 (Nat.lt_irrefl j)
      by_cases h8 : j < 8 * s.size
      · have hjn : ¬ (j : Int) < n := fun h => hend ⟨h, h8⟩
        clear hend
        go_wp2
        go_ret
        exact ⟨rfl, HB1.out⟩
      · clear hend
        go_wp2
        go_ret
        exact ⟨rfl, HB1.out⟩

/-- are all bits from the n-th on 0? -/
def cleanZ (s : ByteArray) (n : Int) : Bool := decide (keepL s.data.toList n.toNat = s.data.toList)

set_option maxHeartbeats 400000 in
theorem clean_any (s : ByteArray) (n : Int) (w : World) (hs : s.size ≤ 1048576) :
    Calls Tryz.prog 129 #[.string s, .int .i64 n] w fun e w' => e = .returned (.bool (cleanZ s n)) ∧ Below w.heap.size w w' := by
  go_enter Tryz.func129, Tryz.ntmps129
  go_wp2_with fail
  refine (keep_any _ _ _ hs).mono ?_
  rintro e w1 ⟨rfl, hb1⟩
  go_wp2
  go_ret
  exact ⟨bool_eq (by unfold cleanZ; rw [Bool.eq_iff_iff]; simp only [beq_iff_eq, decide_eq_true_eq]; rw [ByteArray.toList_eq]), hb1⟩

end Go.Proofs.YtfegdblaohhdoaaGreatDoor.Bits
namespace Go.Proofs.YtfegdblaohhdoaaGreatDoor.Pre
open Go.ChangeShapes Go.WideShapes Go.ChangeAt Go.RowKit
open Go.Proofs.YtfegdblaohhdoaaGreatDoor.Bits
set_option linter.unusedVariables false
set_option maxRecDepth 100000

/-- how many bytes have the first n bits -/
def leastN (n : Int) : Nat := (n.toNat + 7) / 8

set_option maxHeartbeats 400000 in
theorem least_any (n : Int) (w : World) (h : -9223372036854775808 ≤ n ∧ n ≤ 9223372036854775807) :
    Calls Tryz.prog 134 #[.int .i64 n] w fun e w' => e = .returned (.int .i64 (leastN n : Nat)) ∧ w = w' := by
  by_cases h0 : n ≤ 0
  · go_enter Tryz.func134, Tryz.ntmps134
    go_wp2
    go_ret
    exact ⟨int_eq (by unfold leastN; omega), rfl⟩
  · go_enter Tryz.func134, Tryz.ntmps134
    go_wp2
    go_ret
    exact ⟨int_eq (by unfold leastN; omega), rfl⟩

set_option maxHeartbeats 400000 in
theorem rleast_any (n : Int) (w : World) (h : -9223372036854775808 ≤ n ∧ n ≤ 1099511627776) :
    Calls Tryz.prog 77 #[.int .i64 n] w fun e w' => e = .returned (.int .i64 (leastN n : Nat)) ∧ w = w' := by
  by_cases h0 : n < 0
  · go_enter Tryz.func77, Tryz.ntmps77
    go_wp2
    go_ret
    exact ⟨int_eq (by unfold leastN; omega), rfl⟩
  · go_enter Tryz.func77, Tryz.ntmps77
    go_wp2
    go_ret
    exact ⟨int_eq (by unfold leastN; omega), rfl⟩

/-- is it a prefix? -/
def rightZ (s : ByteArray) (n : Int) : Bool := (decide (s.size = 4) || decide (s.size = 16)) && (decide (0 ≤ n) && (decide (n ≤ 8 * (s.size : Int)) && cleanZ s n))

set_option maxHeartbeats 800000 in
theorem right_any (s : ByteArray) (n : Int) (w : World) (hs : s.size ≤ maxLen) :
    Calls Tryz.prog 97 #[.string s, .int .i64 n] w fun e w' => e = .returned (.bool (rightZ s n)) ∧ Below w.heap.size w w' := by
  have hm := hs
  unfold maxLen at hm
  by_cases h4 : s.size = 4 ∨ s.size = 16
  · by_cases h0 : 0 ≤ n
    · by_cases h8 : n ≤ 8 * (s.size : Int)
      · have HC := Lib.hid (fun w => clean_any s n w (by omega))
        have HR : Hid (rightZ s n = cleanZ s n) := Lib.hid (by unfold rightZ; rcases h4 with h4 | h4 <;> simp [h4, h0] <;> omega)
        rw [HR.out]
        clear HR
        rcases h4 with h4 | h4
        · go_enter Tryz.func97, Tryz.ntmps97
          go_wp2_with fail
          refine (HC.out _).mono ?_
          rintro e w1 ⟨rfl, hb1⟩
          go_wp2
          go_ret
          exact ⟨rfl, hb1⟩
        · go_enter Tryz.func97, Tryz.ntmps97
          go_wp2_with fail
          refine (HC.out _).mono ?_
          rintro e w1 ⟨rfl, hb1⟩
          go_wp2
          go_ret
          exact ⟨rfl, hb1⟩
      · have HR : Hid (rightZ s n = false) := Lib.hid (by unfold rightZ; simp [h8])
        rw [HR.out]
        clear HR
        rcases h4 with h4 | h4
        · go_enter Tryz.func97, Tryz.ntmps97
          go_wp2
          go_ret
          exact ⟨rfl, Below.refl _ _⟩
        · go_enter Tryz.func97, Tryz.ntmps97
          go_wp2
          go_ret
          exact ⟨rfl, Below.refl _ _⟩
    · have HR : Hid (rightZ s n = false) := Lib.hid (by unfold rightZ; simp [h0])
      rw [HR.out]
      clear HR
      rcases h4 with h4 | h4
      · go_enter Tryz.func97, Tryz.ntmps97
        go_wp2
        go_ret
        exact ⟨rfl, Below.refl _ _⟩
      · go_enter Tryz.func97, Tryz.ntmps97
        go_wp2
        go_ret
        exact ⟨rfl, Below.refl _ _⟩
  · have HR : Hid (rightZ s n = false) := Lib.hid (by unfold rightZ; simp at h4; simp [h4])
    rw [HR.out]
    clear HR
    obtain ⟨ha, hb⟩ := not_or.1 h4
    clear h4
    go_enter Tryz.func97, Tryz.ntmps97
    go_wp2
    go_ret
    exact ⟨rfl, Below.refl _ _⟩

/-- what is kept of the first bytes is the first bytes of what is kept -/
theorem keepL_take (l : List UInt8) (k n : Nat) : keepL (l.take k) n = (keepL l n).take k := by
  unfold keepL
  apply List.ext_getElem?
  intro i
  by_cases h : i < k
  · rw [List.getElem?_take_of_lt h, List.getElem?_mapIdx, List.getElem?_mapIdx, List.getElem?_take_of_lt h]
  · rw [List.getElem?_eq_none (by simp; omega), List.getElem?_eq_none (by simp; omega)]

/-- the first bytes of an address, as many as have the bits -/
def cutL (l : List UInt8) (n : Int) : List UInt8 := (keepL l n.toNat).take (leastN n)

theorem head_list (s : ByteArray) (k : Nat) : (s.extract 0 k).data.toList = s.data.toList.take k := by simp

theorem cut_less (s : ByteArray) (n : Int) : keepL (s.extract 0 (leastN n)).data.toList n.toNat = cutL s.data.toList n := by
  rw [head_list, keepL_take]; rfl

theorem cut_more (s : ByteArray) (n : Int) (h : s.size < leastN n) : s = ⟨(cutL s.data.toList n).toArray⟩ := by
  have e : cutL s.data.toList n = s.data.toList := by
    unfold cutL
    rw [List.take_of_length_le (by rw [keepL_length, len_list]; omega)]
    exact keepL_all _ _ (by rw [len_list]; unfold leastN at h; omega)
  rw [e]

set_option maxHeartbeats 800000 in
theorem cut_any (s : ByteArray) (n : Int) (w : World) (hs : s.size ≤ 1048576) (h : -9223372036854775808 ≤ n ∧ n ≤ 9223372036854775807) :
    Calls Tryz.prog 112 #[.string s, .int .i64 n] w fun e w' => e = .returned (.string ⟨(cutL s.data.toList n).toArray⟩) ∧ Below w.heap.size w w' := by
  have HL := Lib.hid (fun w => least_any n w h)
  have HM := Lib.hid (cut_more s n)
  have HE := Lib.hid (cut_less s n)
  by_cases hk : leastN n ≤ s.size
  · have HK := Lib.hid (fun w => keep_any (s.extract 0 (leastN n)) n w (by simp; omega))
    rw [HE.out] at HK
    clear HM HE
    generalize ByteArray.mk (cutL s.data.toList n).toArray = cv at *
    generalize leastN n = k at *
    have hsl : ∀ wx, Sem.run Tryz.prog (Instr.slice 9 (Value.string s) none (some (Value.int IntKind.i64 (k : Int))) none) wx = .ok (.string (s.extract 0 k)) wx := by
      intro wx
      have := run_slice_string_h (P := Tryz.prog) wx 9 s Tryz.underlying9 .i64 (k : Int) (by omega) (by omega)
      exact this
    generalize s.extract 0 k = x at *
    go_enter Tryz.func112, Tryz.ntmps112
    go_wp2_with fail
    refine (HL.out _).mono ?_
    rintro e w1 ⟨rfl, rfl⟩
    go_wp2_with fail
    refine (HK.out _).mono ?_
    rintro e w1 ⟨rfl, hb1⟩
    go_wp2
    go_ret
    exact ⟨rfl, hb1⟩
  · have HQ := Lib.hid (HM.out (by omega))
    clear HM HE
    generalize ByteArray.mk (cutL s.data.toList n).toArray = cv at *
    generalize leastN n = k at *
    go_enter Tryz.func112, Tryz.ntmps112
    go_wp2_with fail
    refine (HL.out _).mono ?_
    rintro e w1 ⟨rfl, rfl⟩
    go_wp2
    go_ret
    exact ⟨ret_string HQ.out, Below.refl _ _⟩

/-- bytes, and noughts behind them up to so many -/
def fillL (l : List UInt8) (m : Nat) : List UInt8 := l ++ List.replicate (m - l.length) 0

theorem fillL_length (l : List UInt8) (m : Nat) (h : l.length ≤ m) : (fillL l m).length = m := by simp [fillL]; omega

theorem fill_step (l : List UInt8) (j : Nat) : fillL l (l.length + j) ++ [0] = fillL l (l.length + (j + 1)) := by
  unfold fillL
  rw [List.append_assoc]
  congr 1
  rw [show l.length + (j + 1) - l.length = (l.length + j - l.length) + 1 by omega, List.replicate_succ']

set_option maxHeartbeats 800000 in
theorem rfill_any (s : ByteArray) (m : Int) (w : World) (hs : s.size ≤ 1048576) (h : m ≤ 1048576) :
    Calls Tryz.prog 106 #[.string s, .int .i64 m] w fun e w' => e = .returned (.string ⟨(fillL s.data.toList m.toNat).toArray⟩) ∧ w = w' := by
  go_enter Tryz.func106, Tryz.ntmps106
  go_wp2
  go_loop [0] (fun v => ∃ x : ByteArray, ∃ j : Nat, v = .string x ∧ x.data.toList = fillL s.data.toList (s.data.toList.length + j) ∧ x.size = s.size + j ∧ (j = 0 ∨ ((s.size : Int) + j ≤ m)))
    (fun v => m.toNat - (match v with | .string x => x.size | _ => 0))
  case atStart => exact ⟨s, 0, rfl, by simp [fillL], rfl, .inl rfl⟩
  case round =>
    obtain ⟨x, j, rfl, hx, hxs, hj⟩ := hrel
    have HX := Lib.hid hx
    clear hx
    by_cases hlt : (x.size : Int) < m
    · go_wp2
      go_round
      case rel => exact ⟨_, j + 1, rfl, by rw [← fill_step, ← HX.out]; simp, by rw [ByteArray.size_append, hxs]; rfl, .inr (by omega)⟩
      case measure =>
        have e : (x ++ { data := #[0] } : ByteArray).size = x.size + 1 := ByteArray.size_append
        show m.toNat - (x ++ { data := #[0] } : ByteArray).size < m.toNat - x.size
        omega
    · have HQ : Hid (x = ⟨(fillL s.data.toList m.toNat).toArray⟩) := by
        refine Lib.hid (bytes_inj ?_)
        rw [HX.out]
        unfold fillL
        rw [len_list]
        congr 2
        omega
      go_wp2
      go_ret
      exact ⟨ret_string HQ.out, rfl⟩

/-- how many bytes are alike -/
def leadN (a b : ByteArray) : Nat := alikeN a.data.toList b.data.toList / 8

set_option maxHeartbeats 400000 in
theorem lead_any (a b : ByteArray) (w : World) (ha : a.size ≤ 1048576) (hb : b.size ≤ 1048576) :
    Calls Tryz.prog 113 #[.string a, .string b] w fun e w' => e = .returned (.int .i64 (leadN a b : Nat)) ∧ Below w.heap.size w w' := by
  have HA := Lib.hid (fun w => alike_any a b w ha hb)
  have hl := alike_le a.data.toList b.data.toList
  rw [len_list, len_list] at hl
  have hq : alikeN a.data.toList b.data.toList ≤ 8388608 := by omega
  clear hl
  unfold leadN
  generalize alikeN a.data.toList b.data.toList = n at *
  go_enter Tryz.func113, Tryz.ntmps113
  go_wp2_with fail
  refine (HA.out _).mono ?_
  rintro e w1 ⟨rfl, hb1⟩
  go_wp2
  go_ret
  exact ⟨int_eq (by omega), hb1⟩

end Go.Proofs.YtfegdblaohhdoaaGreatDoor.Pre
namespace Go.Proofs.YtfegdblaohhdoaaGreatDoor.J1
open Go.ChangeShapes Go.WideShapes Go.ChangeAt Go.RowKit
open Go.Proofs.YtfegdblaohhdoaaGreatDoor.Ms
open Go.Proofs.YtfegdblaohhdoaaGreatDoor.S1
open Go.Proofs.YtfegdblaohhdoaaGreatDoor.Lk
open Go.Proofs.YtfegdblaohhdoaaGreatDoor.Nu
open Go.Proofs.YtfegdblaohhdoaaGreatDoor.Cur (numL)
open Go.Proofs.YtfegdblaohhdoaaGreatDoor.Oct (fitsB)
open Go.Proofs.YtfegdblaohhdoaaGreatDoor.Own (k12 k13 ownM isKind fieldsOf)
open Go.Proofs.YtfegdblaohhdoaaGreatDoor.Bits (keepL keepL_length keepL_get keepL_keep keepL_all mask mask_none cleanZ)
open Go.Proofs.YtfegdblaohhdoaaGreatDoor.Pre (leastN cutL fillL fillL_length rightZ keepL_take)
open Go.Proofs.YtfegdblaohhdoaaGreatDoor.F1 (bt bt_nn bt_lt num_two putB putO okT encT enc1 ok1 outT placed)
set_option linter.unusedVariables false
set_option maxRecDepth 100000
set_option maxRecDepth 100000

theorem size_list (a : ByteArray) : a.data.toList.length = a.size := by simp
theorem mk_size (l : List UInt8) : (ByteArray.mk l.toArray).size = l.length := by show l.toArray.size = _; simp
theorem mk_list (a : ByteArray) : (⟨a.data.toList.toArray⟩ : ByteArray) = a := rfl

/-- bytes from the last one that has a kept bit on are noughts -/
theorem fill_cut (l : List UInt8) (n : Nat) (h : n ≤ 8 * l.length) : fillL (cutL l n) l.length = keepL l n := by
  unfold fillL cutL leastN
  rw [Int.toNat_natCast]
  have hk : (n + 7) / 8 ≤ l.length := by omega
  have hl : (List.take ((n + 7) / 8) (keepL l n)).length = (n + 7) / 8 := by rw [List.length_take, keepL_length]; omega
  rw [hl]
  apply List.ext_getElem
  · rw [List.length_append, hl, List.length_replicate, keepL_length]; omega
  · intro i h1 h2
    by_cases hi : i < (n + 7) / 8
    · rw [List.getElem_append_left (by rw [hl]; exact hi), List.getElem_take]
    · rw [List.getElem_append_right (by rw [hl]; omega), List.getElem_replicate]
      apply UInt8.toNat_inj.1
      rw [keepL_get, show n - 8 * i = 0 by omega, mask_none _ (UInt8.toNat_lt _)]
      rfl
theorem right_keep (l : List UInt8) (n : Nat) (h4 : l.length = 4 ∨ l.length = 16) (h : n ≤ 8 * l.length) : rightZ ⟨(keepL l n).toArray⟩ n = true := by
  have hz : (ByteArray.mk (keepL l n).toArray).size = l.length := by rw [mk_size, keepL_length]
  unfold rightZ cleanZ
  rw [hz, Int.toNat_natCast]
  have e : keepL (ByteArray.mk (keepL l n).toArray).data.toList n = (ByteArray.mk (keepL l n).toArray).data.toList := by
    show keepL (keepL l n) n = _
    rw [keepL_keep, Nat.min_self]
  rw [decide_eq_true e]
  rcases h4 with h4 | h4 <;> simp [h4] <;> omega
theorem keep_append (a b : List UInt8) (n : Nat) : keepL (a ++ b) n = keepL a n ++ keepL b (n - 8 * a.length) := by
  unfold keepL
  rw [List.mapIdx_append]
  congr 2
  funext i b
  rw [show n - 8 * (i + a.length) = n - 8 * a.length - 8 * i by omega]
/-- The lengths of the prefixes of an encoding; how many bytes stand ahead of those of one; how many bytes one has. -/
def minA (ae : Int) : Int := if ae = 3 then 64 else 0
def maxA (ae : Int) : Int := if ae = 0 then 0 else if ae = 1 then 32 else 128
def lenB (ae p : Int) : Bool := decide (0 ≤ ae) && (decide (ae ≤ 3) && (decide (minA ae ≤ p) && decide (p ≤ maxA ae)))
def baseN (ae : Int) : Nat := if ae = 3 then 8 else 0
def countN (ae p : Int) : Nat := leastN p - baseN ae
/-- Is it an address of an encoding; a prefix in it? -/
def adrB (ae : Int) (a : ByteArray) : Bool := if ae = 0 then decide (a.size = 0) else if ae = 1 then decide (a.size = 4) else if ae = 2 then decide (a.size = 16) else if ae = 3 then link a else false
def inB (ae : Int) (a : ByteArray) (p : Int) : Bool := adrB ae a && (lenB ae p && (decide (ae = 0) || rightZ a p))
/-- A prefix's bytes; the prefix of bytes. -/
def cutP (ae : Int) (a : ByteArray) (p : Int) : ByteArray := ⟨((cutL a.data.toList p).drop (baseN ae)).toArray⟩
def wholeL (ae : Int) (s : ByteArray) : List UInt8 := if ae = 1 then fillL s.data.toList 4 else if ae = 2 then fillL s.data.toList 16 else if ae = 3 then lkH.data.toList ++ fillL s.data.toList 8 else []
def wholeP (ae : Int) (s : ByteArray) (p : Int) : ByteArray := ⟨(keepL (wholeL ae s) p.toNat).toArray⟩
theorem len_cases {ae p : Int} (h : lenB ae p = true) : (ae = 0 ∧ p = 0) ∨ (ae = 1 ∧ 0 ≤ p ∧ p ≤ 32) ∨ (ae = 2 ∧ 0 ≤ p ∧ p ≤ 128) ∨ (ae = 3 ∧ 64 ≤ p ∧ p ≤ 128) := by
  unfold lenB at h
  simp only [Bool.and_eq_true, decide_eq_true_eq] at h
  obtain ⟨h0, h1, h2, h3⟩ := h
  rcases (show ae = 0 ∨ ae = 1 ∨ ae = 2 ∨ ae = 3 by omega) with rfl | rfl | rfl | rfl
  · have h2 : (0 : Int) ≤ p := h2
    have h3 : p ≤ (0 : Int) := h3
    exact .inl ⟨rfl, by omega⟩
  · exact .inr (.inl ⟨rfl, h2, h3⟩)
  · exact .inr (.inr (.inl ⟨rfl, h2, h3⟩))
  · exact .inr (.inr (.inr ⟨rfl, h2, h3⟩))
theorem len_range {ae p : Int} (h : lenB ae p = true) : 0 ≤ ae ∧ ae ≤ 3 ∧ 0 ≤ p ∧ p ≤ 128 := by
  rcases len_cases h with ⟨rfl, rfl⟩ | ⟨rfl, a, b⟩ | ⟨rfl, a, b⟩ | ⟨rfl, a, b⟩ <;> omega
theorem count_le {ae p : Int} (h : lenB ae p = true) : countN ae p ≤ 16 ∧ countN ae p + baseN ae = leastN p := by
  rcases len_cases h with ⟨rfl, rfl⟩ | ⟨rfl, a, b⟩ | ⟨rfl, a, b⟩ | ⟨rfl, a, b⟩ <;> (unfold countN baseN leastN; simp <;> omega)
theorem right_cases {a : ByteArray} {p : Int} (h : rightZ a p = true) : 0 ≤ p ∧ p ≤ 8 * (a.size : Int) ∧ keepL a.data.toList p.toNat = a.data.toList := by
  unfold rightZ cleanZ at h
  simp only [Bool.and_eq_true, decide_eq_true_eq] at h
  exact h.2
theorem in_cases {ae : Int} {a : ByteArray} {p : Int} (h : inB ae a p = true) : lenB ae p = true ∧ ((ae = 0 ∧ a.size = 0) ∨ ((ae = 1 ∧ a.size = 4 ∨ ae = 2 ∧ a.size = 16 ∨ ae = 3 ∧ link a = true) ∧ p ≤ 8 * (a.size : Int) ∧ keepL a.data.toList p.toNat = a.data.toList)) := by
  unfold inB at h
  simp only [Bool.and_eq_true] at h
  obtain ⟨h0, h1, h2⟩ := h
  refine ⟨h1, ?_⟩
  rcases len_cases h1 with ⟨rfl, _⟩ | ⟨rfl, _⟩ | ⟨rfl, _⟩ | ⟨rfl, _⟩
  · exact .inl ⟨rfl, by simpa [adrB] using h0⟩
  · exact .inr ⟨.inl ⟨rfl, by simpa [adrB] using h0⟩, (right_cases (by simpa using h2)).2⟩
  · exact .inr ⟨.inr (.inl ⟨rfl, by simpa [adrB] using h0⟩), (right_cases (by simpa using h2)).2⟩
  · exact .inr ⟨.inr (.inr ⟨rfl, by simpa [adrB] using h0⟩), (right_cases (by simpa using h2)).2⟩
theorem cut_take {l : List UInt8} {p : Int} (h : keepL l p.toNat = l) : cutL l p = l.take (leastN p) := by unfold cutL; rw [h]
theorem link_take {a : ByteArray} (h : link a = true) : a.data.toList.take 8 = lkH.data.toList := by
  have := congrArg (fun x : ByteArray => x.data.toList) (link_head h)
  simp only [ext_list, List.drop_zero] at this
  exact this
theorem cut_size {ae : Int} {a : ByteArray} {p : Int} (h : inB ae a p = true) : (cutP ae a p).size = countN ae p := by
  obtain ⟨hl, hc⟩ := in_cases h
  have hr := len_range hl
  unfold cutP
  rw [mk_size, List.length_drop]
  unfold cutL countN
  rw [List.length_take, keepL_length, size_list]
  rcases hc with ⟨rfl, h0⟩ | ⟨hc, h8, _⟩
  · rcases len_cases hl with ⟨_, rfl⟩ | ⟨h, _⟩ | ⟨h, _⟩ | ⟨h, _⟩
    · rw [h0]; rfl
    all_goals omega
  · have : leastN p ≤ a.size := by unfold leastN; omega
    rw [Nat.min_eq_left this]
/-- A prefix is that of its bytes. -/
theorem whole_cut {ae : Int} {a : ByteArray} {p : Int} (h : inB ae a p = true) : wholeP ae (cutP ae a p) p = a := by
  obtain ⟨hl, hc⟩ := in_cases h
  have hr := len_range hl
  rcases hc with ⟨rfl, h0⟩ | ⟨hc, h8, hk⟩
  · have e : a.data.toList = [] := List.length_eq_zero_iff.1 (by rw [size_list]; exact h0)
    exact text_eq (by rw [e]; rfl)
  have hn : ((p.toNat : Nat) : Int) = p := by omega
  have hf : fillL (a.data.toList.take (leastN p)) a.size = a.data.toList := by
    have := fill_cut a.data.toList p.toNat (by rw [size_list]; omega)
    rw [hn, cut_take hk, size_list, hk] at this
    exact this
  refine text_eq ?_
  unfold wholeP
  show keepL (wholeL ae (cutP ae a p)) p.toNat = a.data.toList
  have hz : wholeL ae (cutP ae a p) = a.data.toList := by
    rcases hc with ⟨rfl, hs⟩ | ⟨rfl, hs⟩ | ⟨rfl, hs⟩
    · show fillL ((cutL a.data.toList p).drop 0) 4 = _
      rw [List.drop_zero, cut_take hk, ← hs]; exact hf
    · show fillL ((cutL a.data.toList p).drop 0) 16 = _
      rw [List.drop_zero, cut_take hk, ← hs]; exact hf
    · show lkH.data.toList ++ fillL ((cutL a.data.toList p).drop 8) 8 = _
      rw [link_size hs] at hf
      rcases len_cases hl with ⟨h, _⟩ | ⟨h, _⟩ | ⟨h, _⟩ | ⟨_, h1, h2⟩
      · omega
      · omega
      · omega
      have hk8 : 8 ≤ leastN p := by unfold leastN; omega
      have hk16 : leastN p ≤ 16 := by unfold leastN; omega
      have ht := List.take_append_drop 8 (a.data.toList.take (leastN p))
      rw [List.take_take, Nat.min_eq_left hk8, link_take hs] at ht
      have hlen : (a.data.toList.take (leastN p)).length = leastN p := by rw [List.length_take, size_list, link_size hs]; omega
      rw [cut_take hk]
      refine Eq.trans ?_ hf
      unfold fillL
      rw [← List.append_assoc, ht, List.length_drop, hlen, show 8 - (leastN p - 8) = 16 - leastN p by omega]
  rw [hz, hk]
theorem whole_len {ae : Int} {s : ByteArray} {p : Int} (hl : lenB ae p = true) (hs : s.size = countN ae p) : (wholeL ae s).length = if ae = 0 then 0 else if ae = 1 then 4 else 16 := by
  rcases len_cases hl with ⟨rfl, rfl⟩ | ⟨rfl, a, b⟩ | ⟨rfl, a, b⟩ | ⟨rfl, a, b⟩
  · rfl
  · show (fillL s.data.toList 4).length = 4
    exact fillL_length _ _ (by rw [size_list, hs]; unfold countN leastN; omega)
  · show (fillL s.data.toList 16).length = 16
    exact fillL_length _ _ (by rw [size_list, hs]; unfold countN leastN; omega)
  · show (lkH.data.toList ++ fillL s.data.toList 8).length = 16
    rw [List.length_append, fillL_length _ _ (by rw [size_list, hs]; unfold countN leastN baseN; simp; omega)]
    rfl
/-- Bytes are those of a prefix. -/
theorem whole_in {ae : Int} {s : ByteArray} {p : Int} (hl : lenB ae p = true) (hs : s.size = countN ae p) : inB ae (wholeP ae s p) p = true := by
  have hn := whole_len hl hs
  unfold inB
  rw [hl]
  have hz : (wholeP ae s p).size = (wholeL ae s).length := by unfold wholeP; rw [mk_size, keepL_length]
  have hr : ∀ (h4 : (wholeL ae s).length = 4 ∨ (wholeL ae s).length = 16), 0 ≤ p → p ≤ 8 * ((wholeL ae s).length : Int) → rightZ (wholeP ae s p) p = true := fun h4 h0 h8 => by
    have := right_keep (wholeL ae s) p.toNat h4 (by omega)
    rw [Int.toNat_of_nonneg h0] at this
    exact this
  rcases len_cases hl with ⟨rfl, rfl⟩ | ⟨rfl, a, b⟩ | ⟨rfl, a, b⟩ | ⟨rfl, a, b⟩
  · rfl
  · rw [show adrB 1 (wholeP 1 s p) = true from decide_eq_true (by rw [hz, hn]; rfl), hr (.inl hn) a (by rw [hn]; exact b)]; rfl
  · rw [show adrB 2 (wholeP 2 s p) = true from decide_eq_true (by rw [hz, hn]; rfl), hr (.inr hn) a (by rw [hn]; exact b)]; rfl
  · have hk : link (wholeP 3 s p) = true := by
      rw [link_yes (by rw [hz, hn]; rfl)]
      unfold lkB
      have e : (wholeP 3 s p).extract 0 8 = lkH := text_eq (by
        rw [ext_list, List.drop_zero]
        show (keepL (lkH.data.toList ++ fillL s.data.toList 8) p.toNat).take 8 = _
        rw [keep_append, keepL_all _ _ (by show 8 * 8 ≤ p.toNat; omega)]
        exact List.take_left' rfl)
      rw [e, ByteArray.toList_eq]
      rfl
    rw [show adrB 3 (wholeP 3 s p) = true from hk, hr (.inr hn) (by omega) (by rw [hn]; exact b)]; rfl
/-- Is it bare? -/
def bare (m : M) : Bool := isKind m && M.same m (ownM m)
theorem is_12 {m : M} (h : m.kind = 12) : isKind m = true ∧ ownM m = { k12 m with kind := m.kind } := by
  have hi : isKind m = true := by simp [isKind, h]
  exact ⟨hi, by simp [ownM, hi, fieldsOf, h]⟩
theorem is_13 {m : M} (h : m.kind = 13) : isKind m = true ∧ ownM m = { k13 m with kind := m.kind } := by
  have hi : isKind m = true := by simp [isKind, h]
  exact ⟨hi, by simp [ownM, hi, fieldsOf, h]⟩
/-- What a kind has for itself. -/
def seqB (m : M) : Bool := !decide (m.ae = 0) && (fitsB m.seq 2 && (decide (m.id.size = 8) && (decide (1 ≤ m.hops) && fitsB m.hops 1)))
def kindB (m : M) : Bool := if m.kind = 12 then true else if m.kind = 13 then seqB m else false
/-- May it be? -/
def okJ (m : M) : Bool := bare m && (inB m.ae m.pfx m.plen && (okS m.sl && kindB m))
def typJ (m : M) : Int := if m.kind = 12 then 9 else 10
/-- The fields of each kind. -/
def fld9 (m : M) : List UInt8 := layN m.ae 1 ++ layN m.plen 1
def fld10 (m : M) : List UInt8 := layN m.ae 1 ++ (layN m.plen 1 ++ (layN m.seq 2 ++ (layN m.hops 1 ++ (0 :: m.id.data.toList))))
def fldJ (m : M) : List UInt8 := if m.kind = 12 then fld9 m else fld10 m
/-- A TLV's data; its bytes. -/
def datJ (m : M) : ByteArray := ⟨(fldJ m ++ ((cutP m.ae m.pfx m.plen).data.toList ++ (putS m.sl).data.toList)).toArray⟩
def putJ (m : M) : ByteArray := if okJ m then putO (typJ m) (datJ m) else ⟨#[]⟩
theorem putJ_yes {m : M} (h : okJ m = true) : putJ m = putO (typJ m) (datJ m) := by unfold putJ; rw [if_pos h]
theorem putJ_no {m : M} (h : okJ m = false) : putJ m = ⟨#[]⟩ := by unfold putJ; rw [if_neg (by rw [h]; exact Bool.false_ne_true)]
structure Ok (m : M) : Prop where
  bare : bare m = true
  pfx : inB m.ae m.pfx m.plen = true
  subs : okS m.sl = true
  kind : kindB m = true
theorem ok_iff (m : M) : okJ m = true ↔ Ok m := by
  unfold okJ
  simp only [Bool.and_eq_true]
  exact ⟨fun ⟨a, b, c, d⟩ => ⟨a, b, c, d⟩, fun ⟨a, b, c, d⟩ => ⟨a, b, c, d⟩⟩
structure Seq (m : M) : Prop where
  ae : ¬ m.ae = 0
  seq : fitsB m.seq 2 = true
  id : m.id.size = 8
  low : 1 ≤ m.hops
  hops : fitsB m.hops 1 = true
theorem seq_iff (m : M) : seqB m = true ↔ Seq m := by
  unfold seqB
  simp only [Bool.and_eq_true, Bool.not_eq_true', decide_eq_true_eq, decide_eq_false_iff_not]
  exact ⟨fun ⟨a, b, c, d, e⟩ => ⟨a, b, c, d, e⟩, fun ⟨a, b, c, d, e⟩ => ⟨a, b, c, d, e⟩⟩
theorem kind_cases {m : M} (h : kindB m = true) : m.kind = 12 ∨ (m.kind = 13 ∧ Seq m) := by
  unfold kindB at h
  split at h
  · rename_i h1; exact .inl h1
  split at h
  · rename_i h1 h2; exact .inr ⟨h2, (seq_iff m).1 h⟩
  · cases h
theorem fits1 {n : Int} (h0 : 0 ≤ n) (h1 : n < 256) : fitsB n 1 = true := (Oct.fitsB_iff n 1).2 ⟨by omega, by omega, h0, by simpa [Oct.pw] using h1⟩
theorem f_12 {m : M} (h : m.kind = 12) : typJ m = 9 ∧ fldJ m = fld9 m := by unfold typJ fldJ; rw [if_pos h, if_pos h]; exact ⟨rfl, rfl⟩
theorem f_13 {m : M} (h : m.kind = 13) : typJ m = 10 ∧ fldJ m = fld10 m := by unfold typJ fldJ; rw [if_neg (by omega), if_neg (by omega)]; exact ⟨rfl, rfl⟩
/-- How many bytes the fields have. -/
def szJ (t : Int) : Nat := if t = 10 then 14 else 2
theorem szJ_le (t : Int) : szJ t ≤ 14 ∧ 2 ≤ szJ t := by unfold szJ; split <;> omega
theorem fld_len {m : M} (h : okJ m = true) : (fldJ m).length = szJ (typJ m) ∧ (typJ m = 9 ∨ typJ m = 10) := by
  obtain ⟨_, hp, _, hk⟩ := (ok_iff m).1 h
  obtain ⟨hl, _⟩ := in_cases hp
  obtain ⟨a0, a1, p0, p1⟩ := len_range hl
  have l1 := lay_len (fits1 (n := m.ae) a0 (by omega))
  have l2 := lay_len (fits1 (n := m.plen) p0 (by omega))
  rcases kind_cases hk with k | ⟨k, q⟩
  · rw [(f_12 k).1, (f_12 k).2]; unfold fld9; exact ⟨by rw [List.length_append, l1, l2]; rfl, .inl rfl⟩
  · rw [(f_13 k).1, (f_13 k).2]; unfold fld10
    refine ⟨?_, .inr rfl⟩
    have := q.id
    rw [List.length_append, List.length_append, List.length_append, List.length_append, List.length_cons, l1, l2, lay_len q.seq, lay_len q.hops, size_list, this]
    rfl
theorem dat_size (m : M) : (datJ m).size = (fldJ m).length + ((cutP m.ae m.pfx m.plen).size + (putS m.sl).size) := by
  unfold datJ
  rw [mk_size, List.length_append, List.length_append, size_list, size_list]
theorem dat_le {m : M} (h : okJ m = true) : (datJ m).size ≤ 230 := by
  obtain ⟨_, hp, _, _⟩ := (ok_iff m).1 h
  have h1 := (fld_len h).1
  have h2 := putS_le m.sl
  have h3 := (count_le (in_cases hp).1).1
  have h4 := (szJ_le (typJ m)).1
  rw [dat_size, cut_size hp, h1]
  omega
theorem putB_yes {m : M} (h : okJ m = true) : putB (typJ m) (datJ m) = true := by
  have h1 := (fld_len h).2
  have h2 := dat_le h
  unfold putB
  rcases h1 with h1 | h1 <;> rw [h1] <;> simp <;> omega
theorem putJ_ok {m : M} (h : okJ m = true) : (putJ m).data.toList = enc1 (datJ m, typJ m) ∧ ok1 (datJ m, typJ m) := by
  have h1 := (fld_len h).2
  have h2 := dat_le h
  have ho : ok1 (datJ m, typJ m) := ⟨by show 0 ≤ typJ m; omega, by show typJ m ≤ 255; omega, by show (datJ m).size ≤ 255; omega, fun e => by have : typJ m = 0 := e; omega⟩
  refine ⟨?_, ho⟩
  rw [putJ_yes h, (F1.put_ok ho (by show ¬ typJ m = 0; omega)).2]
theorem putJ_size {m : M} (h : okJ m = true) : (putJ m).size = 2 + (szJ (typJ m) + (countN m.ae m.plen + (putS m.sl).size)) := by
  have h1 := (fld_len h).2
  rw [← size_list, (putJ_ok h).1, F1.enc1_len, if_neg (by show ¬ typJ m = 0; omega)]
  show 2 + (datJ m).size = _
  rw [dat_size, (fld_len h).1, cut_size ((ok_iff m).1 h).pfx]
/-- What stands behind a TLV's fields: the prefix's bytes, the Subs, whether none must be known. -/
structure En where
  bytes : ByteArray
  sl : List El
  known : Bool
def En.zero : En := ⟨ByteArray.empty, [], false⟩
def restN (z : Nat) (ae p om : Int) : Nat := z + (countN ae p - om.toNat)
noncomputable def endE (s : ByteArray) (z : Nat) (ae p om : Int) : En × Bool × Int :=
  if s.size < z then (En.zero, false, 2)
  else if 3 < ae then (En.zero, false, 0)
  else if lenB ae p = false ∨ (countN ae p : Int) < om then (En.zero, false, 6)
  else if s.size < restN z ae p om then (En.zero, false, 2)
  else if (outS (s.extract (restN z ae p om) s.size)).2.2 = 0 then (⟨s.extract z (restN z ae p om), (outS (s.extract (restN z ae p om) s.size)).1, (outS (s.extract (restN z ae p om) s.size)).2.1⟩, true, 0)
  else (En.zero, false, (outS (s.extract (restN z ae p om) s.size)).2.2)
section
variable {s : ByteArray} {z : Nat} {ae p om : Int}
theorem end_short (h : s.size < z) : endE s z ae p om = (En.zero, false, 2) := by unfold endE; rw [if_pos h]
theorem end_none (h : ¬ s.size < z) (k : 3 < ae) : endE s z ae p om = (En.zero, false, 0) := by unfold endE; rw [if_neg h, if_pos k]
theorem end_range (h : ¬ s.size < z) (k : ¬ 3 < ae) (g : lenB ae p = false ∨ (countN ae p : Int) < om) : endE s z ae p om = (En.zero, false, 6) := by unfold endE; rw [if_neg h, if_neg k, if_pos g]
theorem end_cut (h : ¬ s.size < z) (k : ¬ 3 < ae) (g1 : lenB ae p = true) (g2 : ¬ (countN ae p : Int) < om) (c : s.size < restN z ae p om) : endE s z ae p om = (En.zero, false, 2) := by
  unfold endE; rw [if_neg h, if_neg k, if_neg (by rw [g1]; simpa using g2), if_pos c]
theorem end_sub {l : List El} {b : Bool} {e : Int} (h : ¬ s.size < z) (k : ¬ 3 < ae) (g1 : lenB ae p = true) (g2 : ¬ (countN ae p : Int) < om) (c : ¬ s.size < restN z ae p om) (o : outS (s.extract (restN z ae p om) s.size) = (l, b, e)) (n : ¬ e = 0) : endE s z ae p om = (En.zero, false, e) := by
  unfold endE; rw [if_neg h, if_neg k, if_neg (by rw [g1]; simpa using g2), if_neg c, o, if_neg n]
theorem end_yes {l : List El} {b : Bool} (h : ¬ s.size < z) (k : ¬ 3 < ae) (g1 : lenB ae p = true) (g2 : ¬ (countN ae p : Int) < om) (c : ¬ s.size < restN z ae p om) (o : outS (s.extract (restN z ae p om) s.size) = (l, b, 0)) : endE s z ae p om = (⟨s.extract z (restN z ae p om), l, b⟩, true, 0) := by
  unfold endE; rw [if_neg h, if_neg k, if_neg (by rw [g1]; simpa using g2), if_neg c, o, if_pos rfl]
/-- What stands behind the fields, if it does. -/
structure Got (s : ByteArray) (z : Nat) (ae p om : Int) (x : En) : Prop where
  eq : endE s z ae p om = (x, true, 0)
  size : restN z ae p om ≤ s.size
  ae3 : ¬ 3 < ae
  len : lenB ae p = true
  omle : om ≤ countN ae p
  bytes : x.bytes = s.extract z (restN z ae p om)
  sub : outS (s.extract (restN z ae p om) s.size) = (x.sl, x.known, 0)
  subs : okS x.sl = true
  fit : restN z ae p om + (putS x.sl).size ≤ s.size
theorem end_cases (s : ByteArray) (z : Nat) (ae p om : Int) : (∃ e, endE s z ae p om = (En.zero, false, e)) ∨ ∃ x, Got s z ae p om x := by
  by_cases h : s.size < z
  · exact .inl ⟨_, end_short h⟩
  by_cases k : 3 < ae
  · exact .inl ⟨_, end_none h k⟩
  cases g1 : lenB ae p
  · exact .inl ⟨_, end_range h k (.inl g1)⟩
  by_cases g2 : (countN ae p : Int) < om
  · exact .inl ⟨_, end_range h k (.inr g2)⟩
  by_cases c : s.size < restN z ae p om
  · exact .inl ⟨_, end_cut h k g1 g2 c⟩
  have hz := outS_ok (s.extract (restN z ae p om) s.size)
  obtain ⟨⟨l, b, e⟩, ho⟩ : ∃ q, outS (s.extract (restN z ae p om) s.size) = q := ⟨_, rfl⟩
  rw [ho] at hz
  by_cases n : e = 0
  · subst n
    have h2 : (putS l).size ≤ (s.extract (restN z ae p om) s.size).size := hz.2
    have h3 : (s.extract (restN z ae p om) s.size).size = s.size - restN z ae p om := by simp
    exact .inr ⟨_, end_yes h k g1 g2 c ho, by omega, k, g1, by omega, rfl, ho, hz.1, by show _ + (putS l).size ≤ _; omega⟩
  · exact .inl ⟨_, end_sub h k g1 g2 c ho n⟩
end
/-- The number of two bytes. -/
def num2 (d : ByteArray) (a : Nat) : Int := ((numL ((d.data.toList.drop a).take 2) : Nat) : Int)
/-- What the fields of each type say. -/
def hd9 (d : ByteArray) : M := { M.zero with kind := 12, ae := bt d 0, plen := bt d 1 }
def hd10 (d : ByteArray) : M := { M.zero with kind := 13, ae := bt d 0, plen := bt d 1, seq := num2 d 2, hops := bt d 4, id := d.extract 6 14 }
def hdJ (t : Int) (d : ByteArray) : M := if t = 10 then hd10 d else hd9 d
/-- The request that a TLV says, whether it counts, the error. -/
noncomputable def outJ (t : Int) (d : ByteArray) : M × Bool × Int :=
  if (endE d (szJ t) (bt d 0) (bt d 1) 0).2.1 = true ∧ (endE d (szJ t) (bt d 0) (bt d 1) 0).1.known = true ∧ kindB (hdJ t d) = true
  then ({ hdJ t d with pfx := wholeP (bt d 0) (endE d (szJ t) (bt d 0) (bt d 1) 0).1.bytes (bt d 1), sl := (endE d (szJ t) (bt d 0) (bt d 1) 0).1.sl }, true, 0)
  else (M.zero, false, (endE d (szJ t) (bt d 0) (bt d 1) 0).2.2)
theorem out_no {t : Int} {d : ByteArray} {e : Int} (h : endE d (szJ t) (bt d 0) (bt d 1) 0 = (En.zero, false, e)) : outJ t d = (M.zero, false, e) := by
  unfold outJ; rw [h, if_neg (fun x => by cases x.1)]
theorem out_not {t : Int} {d : ByteArray} {x : En} (h : endE d (szJ t) (bt d 0) (bt d 1) 0 = (x, true, 0)) (k : ¬ (x.known = true ∧ kindB (hdJ t d) = true)) : outJ t d = (M.zero, false, 0) := by
  unfold outJ; rw [h, if_neg (fun y => k y.2)]
theorem out_yes {t : Int} {d : ByteArray} {x : En} (h : endE d (szJ t) (bt d 0) (bt d 1) 0 = (x, true, 0)) (k : x.known = true) (q : kindB (hdJ t d) = true) : outJ t d = ({ hdJ t d with pfx := wholeP (bt d 0) x.bytes (bt d 1), sl := x.sl }, true, 0) := by
  unfold outJ; rw [h, if_pos ⟨rfl, k, q⟩]

theorem num2_of {d : ByteArray} {a : Nat} {v : Int} (h : (d.data.toList.drop a).take 2 = layN v 2) (hf : fitsB v 2 = true) : num2 d a = v := by unfold num2; rw [h]; exact lay_num hf
theorem num2_fits {d : ByteArray} {a : Nat} (h : a + 2 ≤ d.size) : fitsB (num2 d a) 2 = true := num_fits _ 2 (by rw [List.length_take, List.length_drop, size_list]; omega) (by omega) (by omega)
theorem ext_to (d : ByteArray) (a : Nat) : (d.extract a d.size).data.toList = d.data.toList.drop a := by
  rw [ext_list, List.take_of_length_le (by rw [List.length_drop, size_list]; exact Nat.le_refl _)]
theorem lay_one {v : Int} (h0 : 0 ≤ v) (h1 : v < 256) : ∃ c : UInt8, layN v 1 = [c] ∧ (c.toNat : Int) = v := by
  have hf := fits1 h0 h1
  have := lay_len hf
  have e := lay_num hf
  match layN v 1, this, e with
  | [c], _, e => exact ⟨c, rfl, by rw [← e]; simp [numL]⟩
/-- A request that may be is that of its TLV. -/
theorem put_back {m : M} (h : okJ m = true) : outJ (typJ m) (datJ m) = ({ ownM m with sa := none, sc := 0 }, true, 0) := by
  obtain ⟨_, hp, hx, hk⟩ := (ok_iff m).1 h
  have hl : (datJ m).data.toList = fldJ m ++ ((cutP m.ae m.pfx m.plen).data.toList ++ (putS m.sl).data.toList) := rfl
  have hf := (fld_len h).1
  have hlen := (in_cases hp).1
  obtain ⟨a0, a1, p0, p1⟩ := len_range hlen
  have hc := cut_size hp
  have hw := whole_cut hp
  have hz := dat_size m
  generalize datJ m = d at *
  have hr : restN (szJ (typJ m)) m.ae m.plen 0 = (fldJ m).length + countN m.ae m.plen := by unfold restN; rw [hf]; rfl
  -- what stands behind the fields
  have hend : bt d 0 = m.ae → bt d 1 = m.plen → endE d (szJ (typJ m)) (bt d 0) (bt d 1) 0 = (⟨cutP m.ae m.pfx m.plen, m.sl, true⟩, true, 0) := fun b0 b1 => by
    rw [b0, b1]
    have e1 : d.extract (restN (szJ (typJ m)) m.ae m.plen 0) d.size = putS m.sl := text_eq (by
      rw [ext_to, hr, hl, ← List.drop_drop, List.drop_left, ← hc, ← size_list]
      exact List.drop_left ..)
    have e2 : d.extract (szJ (typJ m)) (restN (szJ (typJ m)) m.ae m.plen 0) = cutP m.ae m.pfx m.plen := text_eq (by
      rw [ext_list, hr, hl, ← hf, List.drop_left, Nat.add_sub_cancel_left, ← hc, ← size_list]
      exact List.take_left ..)
    have := end_yes (s := d) (z := szJ (typJ m)) (ae := m.ae) (p := m.plen) (om := 0) (l := m.sl) (b := true) (by rw [← hf]; omega) (by omega) hlen (by omega) (by rw [hr]; omega) (by rw [e1]; exact put_out hx)
    rw [e2] at this
    exact this
  obtain ⟨ca, ha, hca⟩ := lay_one (v := m.ae) a0 (by omega)
  obtain ⟨cp, hpl, hcp⟩ := lay_one (v := m.plen) p0 (by omega)
  rcases kind_cases hk with k | ⟨k, q⟩
  · rw [(f_12 k).2] at hl
    rw [(f_12 k).1] at hend ⊢
    rw [(is_12 k).2]
    have e : d.data.toList = ca :: cp :: ((cutP m.ae m.pfx m.plen).data.toList ++ (putS m.sl).data.toList) := by rw [hl]; simp [fld9, ha, hpl]
    have b0 : bt d 0 = m.ae := by unfold bt; rw [e]; exact hca
    have b1 : bt d 1 = m.plen := by unfold bt; rw [e]; exact hcp
    rw [out_yes (hend b0 b1) rfl (by rfl), b0, b1, hw]
    rw [show hdJ 9 d = hd9 d from rfl]
    unfold hd9
    rw [b0, b1, k]
    rfl
  · rw [(f_13 k).2] at hl
    rw [(f_13 k).1] at hend ⊢
    rw [(is_13 k).2]
    obtain ⟨ch, hh, hch⟩ := lay_one (v := m.hops) (by have := q.low; omega) (by have := ((Oct.fitsB_iff _ _).1 q.hops).2.2.2; simpa [Oct.pw] using this)
    obtain ⟨s0, s1, hs⟩ : ∃ s0 s1, layN m.seq 2 = [s0, s1] := by
      have := lay_len q.seq
      match layN m.seq 2, this with
      | [a, b], _ => exact ⟨a, b, rfl⟩
    have e : d.data.toList = ca :: cp :: s0 :: s1 :: ch :: 0 :: (m.id.data.toList ++ ((cutP m.ae m.pfx m.plen).data.toList ++ (putS m.sl).data.toList)) := by rw [hl]; simp [fld10, ha, hpl, hh, hs]
    have b0 : bt d 0 = m.ae := by unfold bt; rw [e]; exact hca
    have b1 : bt d 1 = m.plen := by unfold bt; rw [e]; exact hcp
    have b4 : bt d 4 = m.hops := by unfold bt; rw [e]; exact hch
    have n2 : num2 d 2 = m.seq := num2_of (by rw [e, hs]; rfl) q.seq
    have ei : d.extract 6 14 = m.id := text_eq (by
      rw [ext_list, e]
      show List.take 8 (m.id.data.toList ++ _) = _
      rw [← q.id, ← size_list]
      exact List.take_left ..)
    have hh10 : hdJ 10 d = { M.zero with kind := 13, ae := m.ae, plen := m.plen, seq := m.seq, hops := m.hops, id := m.id } := by
      show hd10 d = _
      unfold hd10
      rw [b0, b1, b4, n2, ei]
    rw [out_yes (hend b0 b1) rfl (by rw [hh10]; show seqB _ = true; exact (seq_iff _).2 ⟨q.ae, q.seq, q.id, q.low, q.hops⟩), b0, b1, hw, hh10, k]
    rfl
theorem own_same {m : M} (h : okJ m = true) : M.same m { ownM m with sa := none, sc := 0 } = true ∧ (ownM m).la = none ∧ (ownM m).ll = [] ∧ (ownM m).lc = 0 ∧ (ownM m).sl = m.sl := by
  obtain ⟨hb, _, _, hk⟩ := (ok_iff m).1 h
  have h1 : M.same m (ownM m) = true := by unfold bare at hb; simp at hb; exact hb.2
  refine ⟨h1, ?_⟩
  rcases kind_cases hk with k | ⟨k, _⟩
  · rw [(is_12 k).2]; exact ⟨rfl, rfl, rfl, rfl⟩
  · rw [(is_13 k).2]; exact ⟨rfl, rfl, rfl, rfl⟩
theorem ext_size (d : ByteArray) (a b : Nat) (h : b ≤ d.size) : (d.extract a b).size = b - a := by simp; omega
theorem kind_10 (d : ByteArray) : kindB (hdJ 10 d) = seqB (hd10 d) := rfl
/-- A request that counts may be, and has a TLV no longer. -/
theorem get_ok {t : Int} {d : ByteArray} {x : En} (ht : t = 9 ∨ t = 10) (g : Got d (szJ t) (bt d 0) (bt d 1) 0 x) (hk : kindB (hdJ t d) = true) :
    okJ { hdJ t d with pfx := wholeP (bt d 0) x.bytes (bt d 1), sl := x.sl } = true ∧ (putJ { hdJ t d with pfx := wholeP (bt d 0) x.bytes (bt d 1), sl := x.sl }).size ≤ d.size + 2 := by
  have hb : x.bytes.size = countN (bt d 0) (bt d 1) := by
    rw [g.bytes, ext_size _ _ _ g.size]
    unfold restN
    rw [Nat.add_sub_cancel_left]; rfl
  have hi := whole_in g.len hb
  have hg := g.fit
  have hr : restN (szJ t) (bt d 0) (bt d 1) 0 = szJ t + countN (bt d 0) (bt d 1) := rfl
  have fin : ∀ r : M, okJ r = true → szJ (typJ r) = szJ t → r.ae = bt d 0 → r.plen = bt d 1 → r.sl = x.sl → okJ r = true ∧ (putJ r).size ≤ d.size + 2 := fun r ho h1 h2 h3 h4 => ⟨ho, by rw [putJ_size ho, h1, h2, h3, h4]; omega⟩
  rcases ht with rfl | rfl
  · refine fin _ ((ok_iff _).2 ⟨?_, hi, g.subs, rfl⟩) rfl rfl rfl rfl
    unfold bare
    rw [(is_12 rfl).1, (is_12 rfl).2]
    unfold M.same M.flatE k12 hdJ hd9 M.zero
    simp
  · have q := (seq_iff _).1 ((kind_10 d).symm.trans hk)
    refine fin _ ((ok_iff _).2 ⟨?_, hi, g.subs, ?_⟩) rfl rfl rfl rfl
    · unfold bare
      rw [(is_13 rfl).1, (is_13 rfl).2]
      unfold M.same M.flatE k13 hdJ hd10 M.zero
      simp
    · exact hk
/-- What a TLV comes to. -/
theorem out_cases {t : Int} {d : ByteArray} (ht : t = 9 ∨ t = 10) : (∃ e, outJ t d = (M.zero, false, e)) ∨
    ∃ x, Got d (szJ t) (bt d 0) (bt d 1) 0 x ∧ x.known = true ∧ kindB (hdJ t d) = true ∧ outJ t d = ({ hdJ t d with pfx := wholeP (bt d 0) x.bytes (bt d 1), sl := x.sl }, true, 0) ∧ okJ { hdJ t d with pfx := wholeP (bt d 0) x.bytes (bt d 1), sl := x.sl } = true ∧ (putJ { hdJ t d with pfx := wholeP (bt d 0) x.bytes (bt d 1), sl := x.sl }).size ≤ d.size + 2 := by
  rcases end_cases d (szJ t) (bt d 0) (bt d 1) 0 with ⟨e, h⟩ | ⟨x, g⟩
  · exact .inl ⟨e, out_no h⟩
  by_cases k : x.known = true ∧ kindB (hdJ t d) = true
  · exact .inr ⟨x, g, k.1, k.2, out_yes g.eq k.1 k.2, get_ok ht g k.2⟩
  · exact .inl ⟨0, out_not g.eq k⟩
theorem hd_la (t : Int) (d : ByteArray) : (hdJ t d).la = none ∧ (hdJ t d).ll = [] ∧ (hdJ t d).lc = 0 := by unfold hdJ; split <;> exact ⟨rfl, rfl, rfl⟩
theorem out_len (t : Int) (d : ByteArray) (ht : t = 9 ∨ t = 10) : (outJ t d).1.la = none ∧ (outJ t d).1.ll = [] ∧ (outJ t d).1.lc = 0 ∧ (outJ t d).1.sl.length ≤ 100 ∧ ∀ x ∈ (outJ t d).1.sl, x.1.size ≤ 1099511627776 := by
  rcases out_cases (d := d) ht with ⟨e, h⟩ | ⟨x, g, _, _, h, _, _⟩
  · rw [h]; exact ⟨rfl, rfl, rfl, Nat.zero_le _, fun x hx => absurd hx (by show ¬ x ∈ ([] : List El); simp)⟩
  · rw [h]
    obtain ⟨ha, hb, hc⟩ := hd_la t d
    exact ⟨ha, hb, hc, okS_len g.subs, okS_mem g.subs⟩
/-- An Update as it stands. -/
structure Up where
  ae : Int
  flags : Int
  plen : Int
  om : Int
  iv : Int
  seq : Int
  metric : Int
  hav : Int
  bytes : ByteArray
  sa : Option Addr
  sl : List El
  sc : Nat
def Up.zero : Up := ⟨0, 0, 0, 0, 0, 0, 0, 0, ByteArray.empty, none, [], 0⟩
def Up.cells (x : Up) : Array Value := #[.int .i64 x.ae, .int .i64 x.flags, .int .i64 x.plen, .int .i64 x.om, .int .i64 x.iv, .int .i64 x.seq, .int .i64 x.metric, .int .i64 x.hav, .string x.bytes, .slice x.sa x.sl.length x.sc]
def hdK (d : ByteArray) : Up := { Up.zero with ae := bt d 0, flags := bt d 1, plen := bt d 2, om := bt d 3, iv := num2 d 4, seq := num2 d 6, metric := num2 d 8 }
/-- The Update that a TLV is, whether it is one, the error. -/
noncomputable def outK (d : ByteArray) : Up × Bool × Int :=
  if (endE d 10 (bt d 0) (bt d 2) (bt d 3)).2.1 = true
  then ({ hdK d with hav := if (endE d 10 (bt d 0) (bt d 2) (bt d 3)).1.known then 1 else 0, bytes := (endE d 10 (bt d 0) (bt d 2) (bt d 3)).1.bytes, sl := (endE d 10 (bt d 0) (bt d 2) (bt d 3)).1.sl }, true, 0)
  else (Up.zero, false, (endE d 10 (bt d 0) (bt d 2) (bt d 3)).2.2)
theorem outK_no {d : ByteArray} {e : Int} (h : endE d 10 (bt d 0) (bt d 2) (bt d 3) = (En.zero, false, e)) : outK d = (Up.zero, false, e) := by
  unfold outK; rw [h, if_neg (fun x => by cases x)]
theorem outK_yes {d : ByteArray} {x : En} (h : endE d 10 (bt d 0) (bt d 2) (bt d 3) = (x, true, 0)) : outK d = ({ hdK d with hav := if x.known then 1 else 0, bytes := x.bytes, sl := x.sl }, true, 0) := by
  unfold outK; rw [h, if_pos rfl]
theorem outK_cases (d : ByteArray) : (∃ e, outK d = (Up.zero, false, e)) ∨ ∃ x, Got d 10 (bt d 0) (bt d 2) (bt d 3) x ∧ outK d = ({ hdK d with hav := if x.known then 1 else 0, bytes := x.bytes, sl := x.sl }, true, 0) := by
  rcases end_cases d 10 (bt d 0) (bt d 2) (bt d 3) with ⟨e, h⟩ | ⟨x, g⟩
  · exact .inl ⟨e, outK_no h⟩
  · exact .inr ⟨x, g, outK_yes g.eq⟩
end Go.Proofs.YtfegdblaohhdoaaGreatDoor.J1
namespace Go.Proofs.YtfegdblaohhdoaaGreatDoor.K1
open Go.ChangeShapes Go.WideShapes Go.ChangeAt Go.RowKit
open Go.Proofs.YtfegdblaohhdoaaGreatDoor.Ms
open Go.Proofs.YtfegdblaohhdoaaGreatDoor.S1
open Go.Proofs.YtfegdblaohhdoaaGreatDoor.Lk
open Go.Proofs.YtfegdblaohhdoaaGreatDoor.Nu
open Go.Proofs.YtfegdblaohhdoaaGreatDoor.J1
open Go.Proofs.YtfegdblaohhdoaaGreatDoor.Oct (fitsB)
open Go.Proofs.YtfegdblaohhdoaaGreatDoor.Own (k11 ownM isKind fieldsOf)
open Go.Proofs.YtfegdblaohhdoaaGreatDoor.Bits (keepL keepL_length)
open Go.Proofs.YtfegdblaohhdoaaGreatDoor.Pre (leastN fillL rightZ)
open Go.Proofs.YtfegdblaohhdoaaGreatDoor.F1 (bt bt_nn bt_lt)
set_option linter.unusedVariables false
set_option maxRecDepth 100000
set_option maxRecDepth 100000

/-- What is known at a place. -/
structure Kx where
  p0 : ByteArray
  p1 : ByteArray
  p2 : ByteArray
  p3 : ByteArray
  n0 : ByteArray
  n1 : ByteArray
  id : ByteArray
def Kx.zero : Kx := ⟨ByteArray.empty, ByteArray.empty, ByteArray.empty, ByteArray.empty, ByteArray.empty, ByteArray.empty, ByteArray.empty⟩
def Kx.cells (c : Kx) : Array Value := #[.string c.p0, .string c.p1, .string c.p2, .string c.p3, .string c.n0, .string c.n1, .string c.id]
/-- The default prefix of an encoding, the next hop of a family; with another one. -/
def Kx.pf (c : Kx) (ae : Int) : ByteArray := if ae = 1 then c.p1 else if ae = 2 then c.p2 else if ae = 3 then c.p3 else c.p0
def Kx.nx (c : Kx) (f : Int) : ByteArray := if f = 1 then c.n1 else c.n0
def Kx.setP (c : Kx) (ae : Int) (a : ByteArray) : Kx := if ae = 1 then { c with p1 := a } else if ae = 2 then { c with p2 := a } else if ae = 3 then { c with p3 := a } else { c with p0 := a }
def Kx.setN (c : Kx) (f : Int) (a : ByteArray) : Kx := if f = 1 then { c with n1 := a } else { c with n0 := a }
def emB (a : ByteArray) : Bool := decide (a.size = 0)
def okP (ae : Int) (a : ByteArray) : Bool := emB a || adrB ae a
def okN (k : Nat) (a : ByteArray) : Bool := emB a || decide (a.size = k)
/-- May it be? -/
def okC (c : Kx) : Bool := emB c.p0 && (okP 1 c.p1 && (okP 2 c.p2 && (okP 3 c.p3 && (okN 4 c.n0 && (okN 16 c.n1 && okN 8 c.id)))))
structure Okc (c : Kx) : Prop where
  p0 : c.p0.size = 0
  p1 : c.p1.size = 0 ∨ adrB 1 c.p1 = true
  p2 : c.p2.size = 0 ∨ adrB 2 c.p2 = true
  p3 : c.p3.size = 0 ∨ adrB 3 c.p3 = true
  n0 : c.n0.size = 0 ∨ c.n0.size = 4
  n1 : c.n1.size = 0 ∨ c.n1.size = 16
  id : c.id.size = 0 ∨ c.id.size = 8
theorem okc_iff (c : Kx) : okC c = true ↔ Okc c := by
  unfold okC okP okN emB
  simp only [Bool.and_eq_true, Bool.or_eq_true, decide_eq_true_eq]
  exact ⟨fun ⟨a, b, c, d, e, f, g⟩ => ⟨a, b, c, d, e, f, g⟩, fun ⟨a, b, c, d, e, f, g⟩ => ⟨a, b, c, d, e, f, g⟩⟩
theorem Okc.pf {c : Kx} (h : Okc c) {ae : Int} (h0 : 0 ≤ ae) (h3 : ae ≤ 3) : (c.pf ae).size = 0 ∨ (adrB ae (c.pf ae) = true ∧ ¬ ae = 0) := by
  rcases (show ae = 0 ∨ ae = 1 ∨ ae = 2 ∨ ae = 3 by omega) with rfl | rfl | rfl | rfl
  · exact .inl h.p0
  · exact h.p1.imp (fun x => x) (fun h => ⟨h, by decide⟩)
  · exact h.p2.imp (fun x => x) (fun h => ⟨h, by decide⟩)
  · exact h.p3.imp (fun x => x) (fun h => ⟨h, by decide⟩)
theorem Okc.setP {c : Kx} (h : Okc c) {ae : Int} {a : ByteArray} (h0 : 0 < ae) (h3 : ae ≤ 3) (ha : adrB ae a = true) : Okc (c.setP ae a) := by
  rcases (show ae = 1 ∨ ae = 2 ∨ ae = 3 by omega) with rfl | rfl | rfl
  · exact ⟨h.p0, .inr ha, h.p2, h.p3, h.n0, h.n1, h.id⟩
  · exact ⟨h.p0, h.p1, .inr ha, h.p3, h.n0, h.n1, h.id⟩
  · exact ⟨h.p0, h.p1, h.p2, .inr ha, h.n0, h.n1, h.id⟩
theorem Okc.setI {c : Kx} (h : Okc c) {a : ByteArray} (ha : a.size = 8) : Okc { c with id := a } := ⟨h.p0, h.p1, h.p2, h.p3, h.n0, h.n1, .inr ha⟩
/-- The family of an encoding's addresses, that of an address, the bytes of an encoding's address. -/
def fam (ae : Int) : Int := if ae = 1 then 0 else if ae = 2 ∨ ae = 3 then 1 else -1
def famA (a : ByteArray) : Int := if a.size = 4 then 0 else if a.size = 16 then 1 else -1
def sizeA (ae : Int) : Nat := if ae = 1 then 4 else if ae = 2 then 16 else if ae = 3 then 8 else 0
theorem Okc.setN {c : Kx} (h : Okc c) {ae : Int} {a : ByteArray} (h0 : 0 < ae) (h3 : ae ≤ 3) (ha : a.size = if ae = 1 then 4 else 16) : Okc (c.setN (fam ae) a) := by
  rcases (show ae = 1 ∨ ae = 2 ∨ ae = 3 by omega) with rfl | rfl | rfl
  · exact ⟨h.p0, h.p1, h.p2, h.p3, .inr ha, h.n1, h.id⟩
  · exact ⟨h.p0, h.p1, h.p2, h.p3, h.n0, .inr ha, h.id⟩
  · exact ⟨h.p0, h.p1, h.p2, h.p3, h.n0, .inr ha, h.id⟩
theorem Okc.nx {c : Kx} (h : Okc c) {ae : Int} (h0 : 0 < ae) (h3 : ae ≤ 3) : (c.nx (fam ae)).size = 0 ∨ famA (c.nx (fam ae)) = fam ae := by
  rcases (show ae = 1 ∨ ae = 2 ∨ ae = 3 by omega) with rfl | rfl | rfl
  · exact h.n0.imp (fun x => x) (fun h => by show famA c.n0 = 0; unfold famA; rw [if_pos h])
  · exact h.n1.imp (fun x => x) (fun h => by show famA c.n1 = 1; unfold famA; rw [if_neg (by omega), if_pos h])
  · exact h.n1.imp (fun x => x) (fun h => by show famA c.n1 = 1; unfold famA; rw [if_neg (by omega), if_pos h])

/-- Is it bare? Does an Update say who has the way, if there is one? -/
theorem is_11 {m : M} (h : m.kind = 11) : isKind m = true ∧ ownM m = { k11 m with kind := m.kind } := by
  have hi : isKind m = true := by simp [isKind, h]
  exact ⟨hi, by simp [ownM, hi, fieldsOf, h]⟩
def wayB (m : M) : Bool := if m.metric = 65535 then emB m.id && emB m.next else !decide (m.ae = 0) && (decide (m.id.size = 8) && (emB m.next || decide (famA m.next = fam m.ae)))
/-- May it be an Update? -/
def okU (m : M) : Bool := decide (m.kind = 11) && (bare m && (okS m.sl && (inB m.ae m.pfx m.plen && (fitsB m.interval 2 && (fitsB m.seq 2 && (fitsB m.metric 2 && wayB m))))))

/-- The sub-TLVs from a place on: whether none must be known, or an error. -/
noncomputable def fixO (d : ByteArray) (z : Nat) : Bool × Int := if d.size < z then (false, 2) else (outS (d.extract z d.size)).2
/-- What a router-id's TLV makes, what a next hop's. -/
noncomputable def out6 (c : Kx) (d : ByteArray) : Kx × List M × Int :=
  if (fixO d 10).2 = 0 ∧ (fixO d 10).1 = true then ({ c with id := d.extract 2 10 }, [], 0) else (c, [], (fixO d 10).2)
def hopA (ae : Int) (d : ByteArray) : ByteArray := if ae = 3 then lgA (d.extract 2 (2 + sizeA ae)) else d.extract 2 (2 + sizeA ae)
noncomputable def out7 (c : Kx) (d : ByteArray) : Kx × List M × Int :=
  if d.size < 2 then (c, [], 2)
  else if bt d 0 = 0 ∨ 3 < bt d 0 then (c, [], 0)
  else if (fixO d (2 + sizeA (bt d 0))).2 = 0 ∧ (fixO d (2 + sizeA (bt d 0))).1 = true then (c.setN (fam (bt d 0)) (hopA (bt d 0) d), [], 0)
  else (c, [], (fixO d (2 + sizeA (bt d 0))).2)
/-- An Update's address: the bytes that were left out are the default prefix's. -/
def omL (c : Kx) (u : Up) : List UInt8 := ((c.pf u.ae).data.toList.drop (baseN u.ae)).take u.om.toNat
def adrC (c : Kx) (u : Up) : ByteArray := wholeP u.ae ⟨(omL c u ++ u.bytes.data.toList).toArray⟩ u.plen
/-- The router-id that lies in an address. -/
def idA (a : ByteArray) : ByteArray := ⟨((List.replicate 8 0 ++ a.data.toList).drop a.size).toArray⟩
theorem idA_size (a : ByteArray) : (idA a).size = 8 := by
  unfold idA
  rw [mk_size, List.length_drop, List.length_append, List.length_replicate, size_list]
  omega
/-- What is known behind an Update by its flags. -/
def flagC (c : Kx) (u : Up) (a : ByteArray) : Kx :=
  if u.ae = 0 then c
  else if u.flags / 64 % 2 = 1 then { (if 128 ≤ u.flags then c.setP u.ae a else c) with id := idA a }
  else if 128 ≤ u.flags then c.setP u.ae a else c
/-- Is it told? The message. -/
def tellB (c : Kx) (u : Up) : Bool := !decide (u.hav = 0) && (decide (u.metric = 65535) || (!decide (u.ae = 0) && !emB c.id))
def updM (c : Kx) (u : Up) (a : ByteArray) : M :=
  { M.zero with kind := 11, ae := u.ae, pfx := a, plen := u.plen, interval := u.iv, seq := u.seq, metric := u.metric, sl := u.sl,
                id := if u.metric = 65535 then ByteArray.empty else c.id, next := if u.metric = 65535 then ByteArray.empty else c.nx (fam u.ae) }
def stU (c : Kx) (u : Up) : Kx × List M × Int :=
  if 0 < u.om ∧ (c.pf u.ae).size = 0 then (c, [], 9)
  else (flagC c u (adrC c u), if tellB (flagC c u (adrC c u)) u then [updM (flagC c u (adrC c u)) u (adrC c u)] else [], 0)
noncomputable def out8 (c : Kx) (d : ByteArray) : Kx × List M × Int := if (outK d).2.1 = true then stU c (outK d).1 else (c, [], (outK d).2.2)
/-- What a TLV of the types 6 to 8 makes of what is known, what it tells, the error. -/
noncomputable def outC (c : Kx) (t : Int) (d : ByteArray) : Kx × List M × Int := if t = 6 then out6 c d else if t = 7 then out7 c d else out8 c d

theorem fix_short {d : ByteArray} {z : Nat} (h : d.size < z) : fixO d z = (false, 2) := by unfold fixO; rw [if_pos h]
theorem fix_long {d : ByteArray} {z : Nat} (h : ¬ d.size < z) : fixO d z = (outS (d.extract z d.size)).2 := by unfold fixO; rw [if_neg h]
/-- An Update that counts. -/
structure Cnt (d : ByteArray) (u : Up) : Prop where
  ae0 : 0 ≤ u.ae
  ae3 : u.ae ≤ 3
  len : lenB u.ae u.plen = true
  om0 : 0 ≤ u.om
  omle : u.om ≤ countN u.ae u.plen
  size : u.bytes.size = countN u.ae u.plen - u.om.toNat
  subs : okS u.sl = true
  iv : fitsB u.iv 2 = true
  seq : fitsB u.seq 2 = true
  metric : fitsB u.metric 2 = true
  fl0 : 0 ≤ u.flags
  fl1 : u.flags < 256
theorem outK_cnt {d : ByteArray} (h : (outK d).2.1 = true) : Cnt d (outK d).1 ∧ (outK d).2.2 = 0 := by
  rcases outK_cases d with ⟨e, k⟩ | ⟨x, g, k⟩
  · rw [k] at h; cases h
  rw [k]
  have hl := len_range g.len
  have hs := g.size
  have h10 : 10 ≤ d.size := by unfold restN at hs; omega
  refine ⟨⟨hl.1, hl.2.1, g.len, bt_nn d 3, g.omle, ?_, g.subs, num2_fits (by omega), num2_fits (by omega), num2_fits (by omega), bt_nn d 1, bt_lt d 1⟩, rfl⟩
  show x.bytes.size = countN (bt d 0) (bt d 2) - (bt d 3).toNat
  rw [g.bytes, ext_size _ _ _ hs]
  unfold restN
  omega
theorem outK_two (d : ByteArray) : (∃ e, outK d = (Up.zero, false, e)) ∨ ∃ u, Cnt d u ∧ outK d = (u, true, 0) := by
  rcases outK_cases d with ⟨e, k⟩ | ⟨x, g, k⟩
  · exact .inl ⟨e, k⟩
  · have := outK_cnt (d := d) (by rw [k])
    rw [k] at this
    exact .inr ⟨_, this.1, k⟩
theorem adr_len {ae : Int} {a : ByteArray} (h : adrB ae a = true) (h0 : 0 < ae) (h3 : ae ≤ 3) : a.size = if ae = 1 then 4 else 16 := by
  rcases (show ae = 1 ∨ ae = 2 ∨ ae = 3 by omega) with rfl | rfl | rfl
  · simpa [adrB] using h
  · simpa [adrB] using h
  · have h : link a = true := h
    exact link_size h
/-- As many bytes as were left out stand in the default prefix. -/
theorem ahead_len {c : Kx} {d : ByteArray} {u : Up} (hc : Okc c) (g : Cnt d u) (h : ¬ (0 < u.om ∧ (c.pf u.ae).size = 0)) : (omL c u).length = u.om.toNat := by
  unfold omL
  rw [List.length_take, List.length_drop, size_list]
  by_cases h0 : u.om = 0
  · rw [h0]; simp
  have hp := hc.pf g.ae0 g.ae3
  have h1 := g.om0
  rcases hp with hp | ⟨hp, hz⟩
  · exact absurd ⟨by omega, hp⟩ h
  have hl := adr_len hp (by have := g.ae0; omega) g.ae3
  have h2 := g.omle
  have hcl := count_le g.len
  rcases len_cases g.len with ⟨e, _⟩ | ⟨e, _, k⟩ | ⟨e, _, k⟩ | ⟨e, _, k⟩
  · exact absurd e hz
  · rw [e] at hl hcl h2 ⊢
    have : countN 1 u.plen ≤ 4 := by unfold countN leastN baseN; simp; omega
    have hb : baseN 1 = 0 := rfl
    simp only [if_pos] at hl
    omega
  · rw [e] at hl hcl h2 ⊢
    have hb : baseN 2 = 0 := rfl
    rw [if_neg (by decide)] at hl
    omega
  · rw [e] at hl hcl h2 ⊢
    have hb : baseN 3 = 8 := rfl
    have : countN 3 u.plen ≤ 8 := by unfold countN leastN baseN; simp; omega
    rw [if_neg (by decide)] at hl
    omega
theorem whole_size {c : Kx} {d : ByteArray} {u : Up} (hc : Okc c) (g : Cnt d u) (h : ¬ (0 < u.om ∧ (c.pf u.ae).size = 0)) : (ByteArray.mk (omL c u ++ u.bytes.data.toList).toArray).size = countN u.ae u.plen := by
  rw [mk_size, List.length_append, ahead_len hc g h, size_list, g.size]
  have := g.omle
  have := g.om0
  omega
theorem adr_in {c : Kx} {d : ByteArray} {u : Up} (hc : Okc c) (g : Cnt d u) (h : ¬ (0 < u.om ∧ (c.pf u.ae).size = 0)) : inB u.ae (adrC c u) u.plen = true := whole_in g.len (whole_size hc g h)
theorem in_adr {ae : Int} {a : ByteArray} {p : Int} (h : inB ae a p = true) : adrB ae a = true := by unfold inB at h; rw [Bool.and_eq_true] at h; exact h.1
theorem flag_ok {c : Kx} {d : ByteArray} {u : Up} {a : ByteArray} (hc : Okc c) (g : Cnt d u) (ha : adrB u.ae a = true) : Okc (flagC c u a) := by
  unfold flagC
  by_cases h0 : u.ae = 0
  · rw [if_pos h0]; exact hc
  rw [if_neg h0]
  have h1 : 0 < u.ae := by have := g.ae0; omega
  have hp := hc.setP h1 g.ae3 ha
  by_cases k : u.flags / 64 % 2 = 1
  · rw [if_pos k]
    split
    · exact hp.setI (idA_size a)
    · exact hc.setI (idA_size a)
  · rw [if_neg k]
    split
    · exact hp
    · exact hc
theorem em_size {a : ByteArray} : emB a = true ↔ a.size = 0 := by unfold emB; exact decide_eq_true_iff
/-- What is told may be. -/
theorem upd_ok {c : Kx} {d : ByteArray} {u : Up} {a : ByteArray} (hc : Okc c) (g : Cnt d u) (hi : inB u.ae a u.plen = true) (ht : tellB c u = true) : okU (updM c u a) = true := by
  have hb : bare (updM c u a) = true := by
    unfold bare
    rw [(is_11 (m := updM c u a) rfl).1, (is_11 (m := updM c u a) rfl).2]
    unfold M.same M.flatE k11 updM M.zero
    simp
  have hw : wayB (updM c u a) = true := by
    unfold wayB
    unfold tellB at ht
    by_cases hm : u.metric = 65535
    · rw [if_pos (show (updM c u a).metric = 65535 from hm)]
      have e1 : (updM c u a).id = ByteArray.empty := by unfold updM; simp [hm]
      have e2 : (updM c u a).next = ByteArray.empty := by unfold updM; simp [hm]
      rw [e1, e2]
      rfl
    · rw [if_neg (show ¬ (updM c u a).metric = 65535 from hm)]
      rw [decide_eq_false hm] at ht
      simp only [Bool.and_eq_true, Bool.or_eq_true, Bool.not_eq_true', Bool.false_eq_true, false_or, decide_eq_false_iff_not] at ht
      obtain ⟨_, h0, hz⟩ := ht
      have e1 : (updM c u a).id = c.id := by unfold updM; simp [hm]
      have e2 : (updM c u a).next = c.nx (fam u.ae) := by unfold updM; simp [hm]
      have e3 : (updM c u a).ae = u.ae := rfl
      have h8 : c.id.size = 8 := hc.id.resolve_left (fun h => by rw [em_size.2 h] at hz; cases hz)
      rw [e1, e2, e3, decide_eq_false h0, decide_eq_true h8]
      have := hc.nx (ae := u.ae) (by have := g.ae0; omega) g.ae3
      rcases this with h | h
      · rw [em_size.2 h]; rfl
      · rw [decide_eq_true h]; simp
  unfold okU
  rw [hb, hw]
  show (decide ((11 : Int) = 11) && (true && (okS u.sl && (inB u.ae a u.plen && (fitsB u.iv 2 && (fitsB u.seq 2 && (fitsB u.metric 2 && true))))))) = true
  rw [g.subs, hi, g.iv, g.seq, g.metric]
  rfl
/-- What a TLV comes to. -/
theorem stU_err {c : Kx} {u : Up} (h : 0 < u.om ∧ (c.pf u.ae).size = 0) : stU c u = (c, [], 9) := by unfold stU; rw [if_pos h]
theorem stU_yes {c : Kx} {u : Up} (h : ¬ (0 < u.om ∧ (c.pf u.ae).size = 0)) : stU c u = (flagC c u (adrC c u), if tellB (flagC c u (adrC c u)) u then [updM (flagC c u (adrC c u)) u (adrC c u)] else [], 0) := by unfold stU; rw [if_neg h]
theorem out8_no {c : Kx} {d : ByteArray} {e : Int} (h : outK d = (Up.zero, false, e)) : out8 c d = (c, [], e) := by unfold out8; rw [h, if_neg (by simp)]
theorem out8_yes {c : Kx} {d : ByteArray} {u : Up} (h : outK d = (u, true, 0)) : out8 c d = stU c u := by unfold out8; rw [h, if_pos rfl]
structure Good (c : Kx) (p : Kx × List M × Int) : Prop where
  ok : okC p.1 = true
  told : p.2.1 = [] ∨ ∃ m, p.2.1 = [m] ∧ okU m = true ∧ m.la = none ∧ m.ll = [] ∧ m.lc = 0
  err : ¬ p.2.2 = 0 → p = (c, [], p.2.2)
theorem good_same {c : Kx} (hc : okC c = true) (e : Int) : Good c (c, [], e) := ⟨hc, .inl rfl, fun _ => rfl⟩
theorem good_ctx {c c' : Kx} (hc : okC c' = true) : Good c (c', [], 0) := ⟨hc, .inl rfl, fun h => absurd rfl h⟩
theorem hop_size {ae : Int} {d : ByteArray} (h0 : 0 < ae) (h3 : ae ≤ 3) (hd : ¬ d.size < 2 + sizeA ae) : (hopA ae d).size = if ae = 1 then 4 else 16 := by
  rcases (show ae = 1 ∨ ae = 2 ∨ ae = 3 by omega) with rfl | rfl | rfl
  · have : sizeA 1 = 4 := rfl
    show (d.extract 2 6).size = 4
    rw [ext_size _ _ _ (by omega)]
  · have : sizeA 2 = 16 := rfl
    show (d.extract 2 18).size = 16
    rw [ext_size _ _ _ (by omega)]
  · have : sizeA 3 = 8 := rfl
    show (lgA (d.extract 2 10)).size = 16
    exact link_size (link_lg (by rw [ext_size _ _ _ (by omega)])).1
theorem out_good {c : Kx} (t : Int) (d : ByteArray) (hc : okC c = true) : Good c (outC c t d) := by
  have ho := (okc_iff c).1 hc
  unfold outC
  by_cases h6 : t = 6
  · rw [if_pos h6]
    unfold out6
    by_cases k : (fixO d 10).2 = 0 ∧ (fixO d 10).1 = true
    · rw [if_pos k]
      have hz : ¬ d.size < 10 := fun h => by rw [fix_short h] at k; cases k.2
      exact good_ctx ((okc_iff _).2 (ho.setI (by rw [ext_size _ _ _ (by omega)])))
    · rw [if_neg k]; exact good_same hc _
  rw [if_neg h6]
  by_cases h7 : t = 7
  · rw [if_pos h7]
    unfold out7
    by_cases k1 : d.size < 2
    · rw [if_pos k1]; exact good_same hc _
    rw [if_neg k1]
    by_cases k2 : bt d 0 = 0 ∨ 3 < bt d 0
    · rw [if_pos k2]; exact good_same hc _
    rw [if_neg k2]
    by_cases k : (fixO d (2 + sizeA (bt d 0))).2 = 0 ∧ (fixO d (2 + sizeA (bt d 0))).1 = true
    · rw [if_pos k]
      have hz : ¬ d.size < 2 + sizeA (bt d 0) := fun h => by rw [fix_short h] at k; cases k.2
      have := bt_nn d 0
      exact good_ctx ((okc_iff _).2 (ho.setN (by omega) (by omega) (hop_size (by omega) (by omega) hz)))
    · rw [if_neg k]; exact good_same hc _
  rw [if_neg h7]
  rcases outK_two d with ⟨e, h⟩ | ⟨u, g, h⟩
  · rw [out8_no h]; exact good_same hc _
  rw [out8_yes h]
  by_cases hx : 0 < u.om ∧ (c.pf u.ae).size = 0
  · rw [stU_err hx]; exact good_same hc _
  rw [stU_yes hx]
  have hi := adr_in ho g hx
  have hf := flag_ok ho g (in_adr hi)
  refine ⟨(okc_iff _).2 hf, ?_, fun h => absurd rfl h⟩
  by_cases ht : tellB (flagC c u (adrC c u)) u = true
  · exact .inr ⟨_, by show (if _ then _ else _) = _; rw [if_pos ht], upd_ok hf g hi ht, rfl, rfl, rfl⟩
  · exact .inl (by show (if _ then _ else _) = _; rw [if_neg ht])
theorem out_short {c : Kx} (t : Int) (d : ByteArray) (hc : okC c = true) : ∀ m ∈ (outC c t d).2.1, m.la = none ∧ m.ll = [] ∧ m.lc = 0 ∧ m.sl.length ≤ 100 ∧ ∀ x ∈ m.sl, x.1.size ≤ 1099511627776 := by
  intro m hm
  rcases (out_good t d hc).told with h | ⟨n, h, ho, h1, h2, h3⟩
  · rw [h] at hm; exact absurd hm (by simp)
  · rw [h] at hm
    rw [List.mem_singleton.1 hm]
    have hs : okS n.sl = true := by
      unfold okU at ho
      simp only [Bool.and_eq_true] at ho
      exact ho.2.2.1
    exact ⟨h1, h2, h3, okS_len hs, okS_mem hs⟩

theorem at_0 {d : ByteArray} {x : UInt8} {l : List UInt8} (h : d.data.toList = x :: l) : bt d 0 = x.toNat := by unfold bt; rw [h]; rfl
theorem at_1 {d : ByteArray} {x y : UInt8} {l : List UInt8} (h : d.data.toList = x :: y :: l) : bt d 1 = y.toNat := by unfold bt; rw [h]; rfl
theorem at_2 {d : ByteArray} {x y z : UInt8} {l : List UInt8} (h : d.data.toList = x :: y :: z :: l) : bt d 2 = z.toNat := by unfold bt; rw [h]; rfl
theorem at_3 {d : ByteArray} {x y z u : UInt8} {l : List UInt8} (h : d.data.toList = x :: y :: z :: u :: l) : bt d 3 = u.toNat := by unfold bt; rw [h]; rfl
end Go.Proofs.YtfegdblaohhdoaaGreatDoor.K1
namespace Go.Proofs.YtfegdblaohhdoaaGreatDoor.Few
open Go.ChangeShapes Go.WideShapes Go.ChangeAt Go.RowKit
open Go.Proofs.YtfegdblaohhdoaaGreatDoor.Ms
open Go.Proofs.YtfegdblaohhdoaaGreatDoor.Box
open Go.Proofs.YtfegdblaohhdoaaGreatDoor.Same
open Go.Proofs.YtfegdblaohhdoaaGreatDoor.Cnt
set_option linter.unusedVariables false
set_option maxRecDepth 100000

def small (n : Nat) (l : List El) : Bool := l.all fun x => decide (x.1.size ≤ n)
theorem small_take (n : Nat) (l : List El) (k : Nat) (h : k < l.length) : small n (l.take (k + 1)) = (small n (l.take k) && decide (l[k].1.size ≤ n)) := by
  unfold small
  rw [List.take_succ_eq_append_getElem h, List.all_append]
  simp
theorem small_not (n : Nat) (l : List El) (k : Nat) (h : k < l.length) (hn : n < l[k].1.size) : small n l = false := by
  unfold small
  rw [List.all_eq_false]
  exact ⟨l[k], List.getElem_mem h, by simp; omega⟩
/-- Few parts, of few bytes? -/
def fewB (m : M) : Bool := decide (m.ll.length ≤ 300) && decide (m.sl.length ≤ 60) && decide (wrap64 ((m.auth.size : Int) + m.pfx.size) ≤ 200) && decide (wrap64 ((m.next.size : Int) + m.id.size) ≤ 200) && decide (wrap64 ((m.addr.size : Int) + m.orig.size) ≤ 200) && decide (m.data.size ≤ 300) && small 50 m.ll && small 300 m.sl
set_option maxHeartbeats 3200000 in
set_option maxRecDepth 100000 in
theorem few_any (m : M) (w : World) (hd : DRow w m.la m.ll) (hs : SRow w m.sa m.sl) :
    Calls Tryz.prog 6 #[.agg m.cells] w fun e w' => e = .returned (.bool (fewB m)) ∧ Below w.heap.size w w' := by
  have bel := balloc (Below.refl _ w) (.cells m.cells 29)
  have hd := hd.below (balloc (Below.refl _ w) (.cells m.cells 29))
  have hs := hs.below (balloc (Below.refl _ w) (.cells m.cells 29))
  have b0 := Bx.new w m
  have HFB := Lib.hid (show fewB m = (decide (m.ll.length ≤ 300) && decide (m.sl.length ≤ 60) && decide (wrap64 ((m.auth.size : Int) + m.pfx.size) ≤ 200) && decide (wrap64 ((m.next.size : Int) + m.id.size) ≤ 200) && decide (wrap64 ((m.addr.size : Int) + m.orig.size) ≤ 200) && decide (m.data.size ≤ 300) && small 50 m.ll && small 300 m.sl) from rfl)
  go_enter Tryz.func6, Tryz.ntmps6
  go_upto_region 1 with fail
  generalize w.alloc (.cells m.cells 29) = V at *
  have c3 := b0.cs.c3
  have c6 := b0.cs.c6
  have c9 := b0.cs.c9
  have c11 := b0.cs.c11
  have c19 := b0.cs.c19
  have c20 := b0.cs.c20
  have c21 := b0.cs.c21
  have c23 := b0.cs.c23
  have c24 := b0.cs.c24
  clear b0
  by_cases h1 : 300 < m.ll.length
  · go_wp2
    go_ret
    exact ⟨bool_eq (by rw [HFB.out]; simp; omega), bel⟩
  by_cases h2 : 60 < m.sl.length
  · go_wp2
    go_ret
    exact ⟨bool_eq (by rw [HFB.out]; simp; omega), bel⟩
  by_cases h3 : 200 < wrap64 ((m.auth.size : Int) + m.pfx.size)
  · go_wp2
    go_ret
    exact ⟨bool_eq (by rw [HFB.out]; simp; omega), bel⟩
  by_cases h4 : 200 < wrap64 ((m.next.size : Int) + m.id.size)
  · go_wp2
    go_ret
    exact ⟨bool_eq (by rw [HFB.out]; simp; omega), bel⟩
  by_cases h5 : 200 < wrap64 ((m.addr.size : Int) + m.orig.size)
  · go_wp2
    go_ret
    exact ⟨bool_eq (by rw [HFB.out]; simp; omega), bel⟩
  by_cases h6 : 300 < m.data.size
  · go_wp2
    go_ret
    exact ⟨bool_eq (by rw [HFB.out]; simp; omega), bel⟩
  have HF2 : Hid (fewB m = (small 50 m.ll && small 300 m.sl)) := Lib.hid (by rw [HFB.out]; simp [show m.ll.length ≤ 300 by omega, show m.sl.length ≤ 60 by omega, show wrap64 ((m.auth.size : Int) + m.pfx.size) ≤ 200 by omega, show wrap64 ((m.next.size : Int) + m.id.size) ≤ 200 by omega, show wrap64 ((m.addr.size : Int) + m.orig.size) ≤ 200 by omega, show m.data.size ≤ 300 by omega])
  clear HFB
  go_upto_region 3 with fail
  have l1 : m.ll.length ≤ 300 := by omega
  have l2 : m.sl.length ≤ 60 := by omega
  clear h1 h2 h3 h4 h5 h6 c3 c6 c9 c11 c19 c20 c23
  generalize m.ll = x at *
  generalize m.sl = y at *
  go_wp2
  go_loopw [3] (fun i wr => ∃ k : Nat, k ≤ x.length ∧ i = .int .i64 k ∧ Hid (small 50 (x.take k) = true) ∧ wr = V) (fun i _ => x.length - (intOf i).toNat)
  case atStart => exact ⟨0, Nat.zero_le _, rfl, Lib.hid rfl, rfl⟩
  case round =>
    obtain ⟨k, hk, rfl, HN, rfl⟩ := hrel
    by_cases hlt : k < x.length
    · obtain ⟨p, hp, _, d0, _⟩ := hd k hlt
      rw [hp] at c21
      have HT := Lib.hid (small_take 50 x k hlt)
      have HF := Lib.hid (small_not 50 x k hlt)
      clear hd hs hp c24
      generalize x[k] = u at *
      obtain ⟨s, n⟩ := u
      by_cases h1 : 50 < s.size
      · go_wp2
        go_ret
        exact ⟨bool_eq (by rw [HF2.out, HF.out h1]; simp), bel⟩
      · go_wp2
        go_roundw
        case rel => exact ⟨k + 1, hlt, by go_num, Lib.hid (by rw [HT.out, HN.out]; simp; omega), by first | rfl | trivial⟩
        case measure => simp [intOf]; omega
    · obtain rfl : k = x.length := by omega
      have HX : Hid (small 50 x = true) := Lib.hid (by have := HN.out; rwa [List.take_length] at this)
      clear HN hd
      go_wp2
      go_loopw [4] (fun i wr2 => ∃ k : Nat, k ≤ y.length ∧ i = .int .i64 k ∧ Hid (small 300 (y.take k) = true) ∧ wr2 = wr) (fun i _ => y.length - (intOf i).toNat)
      case atStart => exact ⟨0, Nat.zero_le _, rfl, Lib.hid rfl, rfl⟩
      case round =>
        obtain ⟨k, hk, rfl, HN, rfl⟩ := hrel
        by_cases hlt : k < y.length
        · obtain ⟨p, hp, _, _, d1⟩ := hs k hlt
          rw [hp] at c24
          have HT := Lib.hid (small_take 300 y k hlt)
          have HF := Lib.hid (small_not 300 y k hlt)
          clear hs hp c21
          rw [add_one] at d1
          generalize y[k] = u at *
          obtain ⟨s, n⟩ := u
          by_cases h1 : 300 < s.size
          · go_wp2
            go_ret
            exact ⟨bool_eq (by rw [HF2.out, HF.out h1]; simp), bel⟩
          · go_wp2
            go_roundw
            case rel => exact ⟨k + 1, hlt, by go_num, Lib.hid (by rw [HT.out, HN.out]; simp; omega), by first | rfl | trivial⟩
            case measure => simp [intOf]; omega
        · obtain rfl : k = y.length := by omega
          have HY : Hid (small 300 y = true) := Lib.hid (by have := HN.out; rwa [List.take_length] at this)
          clear HN hs
          go_wp2
          go_ret
          exact ⟨bool_eq (by rw [HF2.out, HX.out, HY.out]; rfl), bel⟩
end Go.Proofs.YtfegdblaohhdoaaGreatDoor.Few
namespace Go.Proofs.YtfegdblaohhdoaaGreatDoor.Hx
open Go.ChangeShapes Go.WideShapes Go.ChangeAt Go.RowKit
set_option linter.unusedVariables false
set_option maxRecDepth 100000
set_option maxRecDepth 100000

section
variable {P : Program} {ops : Array Oper} {Q : Exit → Act → World → Prop} {md : Region.Mode} {S : World → Prop}
theorem H.storeRow {i : Nat} {o : Oper} {fuel : Nat} {listed : Array Bool} {a : Act} {w : World} {ty : TypeId} {x y : Operand}
    (ho : ops[i]? = some o) (hw : Region.wanted o (yielded ops a.tmps) = true) (hd : o.dst = none) (hop : o.op = .store ty x y) (hr : Region.ready md ops listed = [i])
    (g : Nat) (cells : Array Value) (hx : a.eval x = .pointer (some ⟨g, 0, none⟩)) (hy : a.eval y = .agg cells) (t : TypeId) (old : Array Value) (hg : w.heap[g]? = some (.cells old t (0, 0)))
    (hi : (P.info? ty).map (·.size) = some cells.size) (hold : old.size = cells.size) (h1 : cells.all (·.oneCell') = true) (hS : S (w.setRow g cells))
    (h : wpAnyH P md ops Q S fuel (listed.setIfInBounds i true) a (w.setRow g cells)) : wpAnyH P md ops Q S (fuel + 1) listed a w := by
  refine wpAnyH_ready (rs := [i]) hr (by simp) ?_
  refine AllReadyH.cons ho (fun K hK => ?_) AllReadyH.nil
  rw [if_pos hw]
  refine wp_store_row ty x y hop g cells hx hy t old hg hi hold h1 ?_
  rw [hd]
  exact hK.out _ _ hS (fun _ => h)
end
theorem ex_built {P : Program} {o : Oper} {ρ : Operand → Value} {t : TypeId} {parts : Array (Nat × Operand)} {cells : Array Value} {w : World} (ho : o.op = .build t parts) (hc : P.built t (parts.map fun (i, x) => (i, ρ x)).toList = some cells) :
    (execOp ρ o).run P w = .ok (.value (.agg cells)) w := by
  unfold execOp
  simp only [ho, Sem.run_bind, run_build w t _ cells hc, Result.andThen_ok, Sem.run_pure]
theorem conv8 (n : Int) (h0 : 0 ≤ n) (h1 : n < 256) (W : World) : (convert 5 3 (.int .u8 n)).run Tryz.prog W = .ok (.int .i64 n) W := by
  rw [run_convert_int W 5 3 .u8 n (by rw [Tryz.underlying5]; rfl) Tryz.underlying3]
  have : (Tryz.prog.intKind 3).wrap n = n := by
    rw [show Tryz.prog.intKind 3 = .i64 by kernel_rfl]
    exact IntWalk.i64_in n (by omega)
  rw [this, show Tryz.prog.intKind 3 = .i64 by kernel_rfl]
end Go.Proofs.YtfegdblaohhdoaaGreatDoor.Hx
namespace Go.Proofs.YtfegdblaohhdoaaGreatDoor.Bk
open Go.ChangeShapes Go.WideShapes Go.ChangeAt Go.RowKit
open Go.Proofs.YtfegdblaohhdoaaGreatDoor.Cur
open Go.Proofs.YtfegdblaohhdoaaGreatDoor.Oct
set_option linter.unusedVariables false
set_option maxRecDepth 100000

theorem alloc_size (w : World) (o : Obj) : (w.alloc o).heap.size = w.heap.size + 1 := by show (w.heap.push o).size = _; simp
/-- Block b holds the cells cs of a struct of type t. -/
def Bk (t : TypeId) (w : World) (b : Nat) (cs : Array Value) : Prop := w.heap[b]? = some (.cells cs t (0, 0))
section
variable {t : TypeId} {w w' : World} {b : Nat} {cs cs' : Array Value}
theorem Bk.lt (h : Bk t w b cs) : b < w.heap.size := (Array.getElem?_eq_some_iff.1 h).1
theorem Bk.below (h : Bk t w b cs) (hb : Below w.heap.size w w') : Bk t w' b cs := (hb.block b h.lt).trans h
theorem Bk.under {B : Nat} (h : Bk t w b cs) (hb : Below B w w') (hB : b < B) : Bk t w' b cs := (hb.block b hB).trans h
theorem Bk.new (t : TypeId) (w : World) (cs : Array Value) : Bk t (w.alloc (.cells cs t)) w.heap.size cs := heap_alloc_new w _
theorem Bk.old (h : Bk t w b cs) (o : Obj) : Bk t (w.alloc o) b cs := (heap_alloc_old w o h.lt).trans h
theorem Bk.row {g : Nat} (h : Bk t w b cs) (hn : b ≠ g) (cs' : Array Value) : Bk t (w.setRow g cs') b cs := (setRow_other w g b cs' hn).trans h
theorem Bk.put (h : Bk t w b cs) (cs' : Array Value) : Bk t (w.setRow b cs') b cs' := setRow_heap w b cs cs' _ _ h
theorem Bk.set {i : Nat} {v : Value} (h : Bk t w b cs) (hm : cs.setIfInBounds i v = cs') : Bk t (w.setCell ⟨b, i, none⟩ v) b cs' := by
  have := heap_setCell_same w b i cs t v h
  rw [hm] at this
  exact this
theorem Bk.off (h : Bk t w b cs) {p : Addr} (hn : b ≠ p.block) (v : Value) : Bk t (w.setCell p v) b cs := (heap_setCell_other w p b v hn).trans h
theorem Bk.cell (h : Bk t w b cs) (j : Nat) (v : Value) (hv : cs[j]? = some v) : w.cell? ⟨b, j, none⟩ = some v := by
  rw [cell_of_row w b j cs _ _ h, hv]
theorem Bk.frozen (h : Bk t w b cs) (j : Nat) : w.frozen? ⟨b, j, none⟩ = false := frozen_of_row w b j cs _ h
end

/-- ty is a struct of n cells. -/
def Sh (P : Program) (ty : TypeId) (n : Nat) : Prop := ∃ fs, P.underlying ty = some (.struct fs) ∧ (P.info? ty).map (·.size) = some n
section
variable {P : Program}
theorem wpList_loadK {ops : Array Oper} {rest : List Oper} {o : Oper} {a : Act} {w : World} {Q : Exit → Act → World → Prop} {ty tb : TypeId} {n : Nat} (hs : Sh P ty n)
    (hgd : o.guard = none) (x : Operand) (ho : o.op = .load ty x) {b : Nat} (hx : a.eval x = .pointer (some ⟨b, 0, none⟩)) {cs : Array Value} (hb : Bk tb w b cs) (hn : cs.size = n)
    (h : wpList P ops Q rest (a.put o.dst (.agg cs)) w) : wpList P ops Q (o :: rest) a w := by
  subst hn
  obtain ⟨d, h1, h3⟩ := hs
  exact wpList_load_row hgd ty x ho b hx tb cs (0, 0) _ hb h1 rfl h3 h
theorem wpList_storeK {ops : Array Oper} {rest : List Oper} {o : Oper} {a : Act} {w : World} {Q : Exit → Act → World → Prop} {ty tb : TypeId} {n : Nat} (hs : Sh P ty n)
    (hgd : o.guard = none) (x y : Operand) (ho : o.op = .store ty x y) {b : Nat} (hx : a.eval x = .pointer (some ⟨b, 0, none⟩)) {cs cs' : Array Value} (hy : a.eval y = .agg cs') (hb : Bk tb w b cs) (hn : cs.size = n) (hn' : cs'.size = n) (h1 : (cs'.all fun x => x.oneCell') = true)
    (h : wpList P ops Q rest (a.put o.dst undef) (w.setRow b cs')) : wpList P ops Q (o :: rest) a w := by
  obtain ⟨d, _, h3⟩ := hs
  exact wpList_store_row hgd ty x y ho b cs' hx hy tb cs hb (by rw [h3, hn']) (by rw [hn, hn']) h1 h
theorem wpList_builtK {ops : Array Oper} {rest : List Oper} {o : Oper} {a : Act} {w : World} {Q : Exit → Act → World → Prop} (hg : o.guard = none) (t : TypeId) (parts : Array (Nat × Operand)) (ho : o.op = .build t parts)
    (cells : Array Value) (hc : P.built t (parts.map fun (i, x) => (i, a.eval x)).toList = some cells)
    (h : wpList P ops Q rest (a.put o.dst (.agg cells)) w) : wpList P ops Q (o :: rest) a w :=
  wpList_build hg t parts ho (by rw [hc]; rfl) (by rw [hc]; exact h)
theorem loadVarK {w : World} {b n : Nat} {ty tb : TypeId} {cs : Array Value} (hs : Sh P ty n) (h : Bk tb w b cs) (hn : cs.size = n) : (loadVar ty ⟨b, 0, none⟩).run P w = .ok (.agg cs) w := by
  subst hn
  obtain ⟨d, h1, h3⟩ := hs
  exact run_loadVar_row w b tb ty cs (0, 0) _ h h1 rfl h3
theorem run_loadK {o : Oper} {ρ : Operand → Value} {x : Operand} {b n : Nat} {ty tb : TypeId} {cs : Array Value} {w : World} (hs : Sh P ty n) (ho : o.op = .load ty x) (hx : ρ x = .pointer (some ⟨b, 0, none⟩)) (hb : Bk tb w b cs) (hn : cs.size = n) :
    (execOp ρ o).run P w = .ok (.value (.agg cs)) w := by
  unfold execOp
  simp only [ho, hx, Instr.loadAt, Instr.sureAddr, Sem.run_bind, Sem.run_pure, Result.andThen_ok, loadVarK hs hb hn]
theorem results_pair {fn : Func} {p q : Nat} {ty : TypeId} (h : fn.results = #[.cell p ty, .tmp q]) (tmps : Array Value) (w : World) (g : Nat) (u : Value)
    (hp : tmps.getD p undef = .pointer (some ⟨g, 0, none⟩)) (hl : (loadVar ty ⟨g, 0, none⟩).run P w = .ok u w) (v : Value) (hv : tmps.getD q undef = v) :
    (results fn tmps).run P w = .ok (.tuple #[u, v]) w := by
  have hp' : tmps[p]?.getD undef = .pointer (some ⟨g, 0, none⟩) := by simpa using hp
  have hv' : tmps[q]?.getD undef = v := by simpa using hv
  simp [results, h, hp', hv', asAddr, hl]
end

end Go.Proofs.YtfegdblaohhdoaaGreatDoor.Bk
