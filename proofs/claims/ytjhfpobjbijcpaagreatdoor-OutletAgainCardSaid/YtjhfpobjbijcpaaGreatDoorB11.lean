/-
  The calls that make bytes: Keep, and Clean, which asks it; and the document's own.
  The calls of layer 4, and the document's own: Least, Right, Cut, Fill, Lead.
-/
import Derived.Test.YtjhfpobjbijcpaaGreatDoorB10
import Derived.OwnWalk
import Derived.Laws.CopyOwn
import Derived.Lib.BufferWrite
import Derived.Lib.MinMax
namespace Go.Proofs.YtjhfpobjbijcpaaGreatDoor.Bits
open Go.ChangeShapes Go.WideShapes Go.ChangeAt Go.RowKit
set_option linter.unusedVariables false
set_option maxRecDepth 100000

theorem info5 : (Tryz.prog.info? 5).map (fun i => (i.zero, i.size, i.bytes)) = some (some (.int .u8 0), 1, 1) := by kernel_rfl

/-- bytes, as the cells of a row -/
def cellsL (l : List UInt8) : List Value := l.map fun b => Value.int .u8 b.toNat

theorem cellsL_length (l : List UInt8) : (cellsL l).length = l.length := by simp [cellsL]

theorem conv_row (w : World) (g c : Nat) (base : Nat) (l : List UInt8) (n : Nat) (hn : l.length = n) (h : w.ownsRow base 5 1 (.slice (some ⟨g, 0, none⟩) n c) n (cellsL l)) :
    (convert 63 9 (.slice (some ⟨g, 0, none⟩) n c)).run Tryz.prog w = .ok (.string ⟨l.toArray⟩) w := by
  subst hn
  refine run_convert_bytes_back w 63 9 5 ⟨g, 0, none⟩ c l Tryz.underlying63 Tryz.underlying5 Tryz.underlying9 fun j hj => ?_
  have := h.cellAt j (by omega)
  simp [Addr.add_lit]
  rw [this]
  simp [cellsL, hj]

theorem ret_string {a b : ByteArray} (h : a = b) : Ending.returned (.string a) = .returned (.string b) := by rw [h]

/-- copy(row, s), s no longer than the row: its bytes stand at the row's head -/
theorem wpList_copy_str {P : Program} {w : World} {ops : Array Oper} {rest : List Oper} {o : Oper} {a : Act} {Q : Exit → Act → World → Prop} (hgd : o.guard = none) (d s : Operand) (dT sT : TypeId)
    (ho : o.op = .call { callee := .builtin .copy, args := #[d, s], argTypes := #[dT, sT] }) (elem : TypeId) (hu : P.underlying dT = some (.slice elem)) (hsz : (P.info? elem).map (·.size) = some 1)
    (g n : Nat) (hd : a.eval d = .slice (some ⟨g, 0, none⟩) n n) (t : ByteArray) (hs : a.eval s = .string t)
    (base : Nat) (xs : List Value) (hrow : w.ownsRow base elem 1 (.slice (some ⟨g, 0, none⟩) n n) n xs) (hle : t.size ≤ n)
    (h : ∀ w', w'.ownsRow base elem 1 (.slice (some ⟨g, 0, none⟩) n n) n (cellsL t.data.toList ++ xs.drop t.size) → w.grownBy w' (some g) → wpList P ops Q rest (a.put o.dst (goInt t.size)) w') :
    wpList P ops Q (o :: rest) a w := by
  obtain ⟨hlen, hrow⟩ := hrow
  rcases hrow with ⟨h', _⟩ | ⟨g', cap', cur, h', hb, hg, hnc, hcm, hcs, htake⟩
  · simp at h'
  · simp only [Value.slice.injEq, Option.some.injEq, Addr.mk.injEq, and_true, true_and] at h'
    obtain ⟨rfl, rfl⟩ := h'
    simp only [Nat.mul_one] at hlen hcs htake
    have hrun := Lib.run_copy_row_string (P := P) w dT sT o.type elem g 0 n n t cur elem hu hsz hg hle (by omega)
    have hxs : cur.toList = xs := by rw [← htake, List.take_of_length_le (by simp; omega)]
    have hnew : List.take 0 cur.toList ++ Lib.byteCells t.data.toList ++ List.drop (0 + t.size) cur.toList = cellsL t.data.toList ++ xs.drop t.size := by
      rw [hxs]; simp [Lib.byteCells, cellsL]
    rw [hnew] at hrun
    refine wpList_plain hgd fun K hK => ?_
    unfold Oper.wp
    simp [execOp, ho, resolve, invoke, builtin, hd, hs, hrun, Result.andThen]
    refine hK _ _ (h _ ⟨?_, .inr ⟨g, n, _, rfl, hb, setRow_heap w g _ _ elem _ hg, Nat.le_refl _, hcm, ?_, ?_⟩⟩ ⟨rfl, rfl, rfl, by simp [World.setRow], fun k _ hk => setRow_other w g k _ (fun e => hk (by rw [e]))⟩)
    · simp [cellsL_length]; omega
    · simp [cellsL_length]; omega
    · rw [Nat.mul_one]; exact List.take_of_length_le (by simp [cellsL_length]; omega)

theorem and_high (b r : Nat) (hb : b < 256) (h : r ≤ 8) : bits BinOp.and IntKind.u8 (b : Int) ((255 * 2 ^ (8 - r) % 256 : Nat) : Int) = ((mask b r : Nat) : Int) := by
  rw [u8_and_nat _ _ hb (by omega), mask_eq]
  congr 1
  have : r = 0 ∨ r = 1 ∨ r = 2 ∨ r = 3 ∨ r = 4 ∨ r = 5 ∨ r = 6 ∨ r = 7 ∨ r = 8 := by omega
  revert b
  rcases this with rfl | rfl | rfl | rfl | rfl | rfl | rfl | rfl | rfl <;> decide +kernel

set_option maxHeartbeats 800000 in
theorem keep_any (s : ByteArray) (n : Int) (w : World) (hs : s.size ≤ 1048576) :
    Calls Tryz.prog 149 #[.string s, .int .i64 n] w fun e w' => e = .returned (.string ⟨(keepL s.data.toList n.toNat).toArray⟩) ∧ Below w.heap.size w w' := by
  obtain ⟨i0, hi, hz0, hz1, hz2⟩ := info_parts info5
  have HK : Hid (keepL s.data.toList n.toNat = keepL s.data.toList (inZ s n)) := by
    have := keepL_min s.data.toList n.toNat
    rw [len_list] at this
    exact Lib.hid this.symm
  have hm : inZ s n ≤ 8 * s.size := by unfold inZ; omega
  have HW := Lib.hid (fun w => within_any s n w hs)
  generalize inZ s n = m at *
  go_enter Tryz.func149, Tryz.ntmps149
  go_wp2_with fail
  refine (HW.out _).mono ?_
  rintro e w1 ⟨rfl, rfl⟩
  clear HW
  go_wp2_with (at_make; refine wpList_make_full _ rfl _ _ 63 rfl w.heap.size 5 i0 (.int .u8 0) 1 Tryz.underlying63 hi hz0 hz1 _ _ _ _ s.size rfl rfl rfl rfl (by rw [hz2]; omega) (by unfold maxLen; omega) (by simp) ?_)
  intro w1 hown hgrow
  have HG := Lib.hid hgrow
  have HO := Lib.hid hown
  clear hgrow hown
  have hsz : (Tryz.prog.info? 5).map (·.size) = some 1 := by rw [hi]; simp [hz1]
  go_wp2_with (with_reducible refine wpList_copy_str rfl (.tmp 12) (.tmp 16) 63 9 rfl 5 Tryz.underlying63 hsz w.heap.size s.size rfl _ rfl w.heap.size _ HO.out ?_ ?_)
  · simp; omega
  intro w2 hown2 hgrow2
  have HB2 : Hid (Below w.heap.size w w2) := Lib.hid (((Below.refl _ _).grown HG.out (Nat.le_refl _) (fun k hk => by cases hk)).grown hgrow2 HG.out.size (fun k hk => by cases hk; exact Nat.le_refl _))
  have HO2 : Hid (w2.ownsRow w.heap.size 5 1 (.slice (some ⟨w.heap.size, 0, none⟩) s.size s.size) s.size (cellsL (s.data.toList.take (m / 8) ++ List.replicate (s.size - m / 8) 0))) := by
    have e : cellsL (s.data.toList.take (m / 8) ++ List.replicate (s.size - m / 8) 0) = cellsL (List.take (m / 8) s.data.toList) ++ List.drop (min (m / 8) s.size) (madeCells #[Value.int IntKind.u8 0] s.size).toList := by
      rw [toList_madeCells_one, Nat.min_eq_left (by omega)]
      simp [cellsL]
    exact Lib.hid (by rw [e]; exact hown2)
  clear hown2 hgrow2 HG HO hi hz0 hz1 hz2 hsz
  have HP := Lib.hid (keepL_parts s.data.toList m (by rw [len_list]; exact hm))
  rw [len_list] at HP
  by_cases h0 : m % 8 = 0
  · have HC : Hid (w2.ownsRow w.heap.size 5 1 (.slice (some ⟨w.heap.size, 0, none⟩) s.size s.size) s.size (cellsL (keepL s.data.toList n.toNat))) := by
      have := HP.out
      rw [if_pos h0] at this
      exact Lib.hid (by rw [HK.out, this]; exact HO2.out)
    have hc := conv_row w2 w.heap.size s.size w.heap.size (keepL s.data.toList n.toNat) s.size (by rw [keepL_length, len_list]) HC.out
    clear HC HO2 HP
    go_wp2
    go_ret
    exact ⟨rfl, HB2.out⟩
  · have hk : m / 8 < s.size := by omega
    have ho : ((m : Int) / 8).toNat = m / 8 := by omega
    have hfr := HO2.out.frozenAt ((m : Int) / 8).toNat
    obtain ⟨u, hcl⟩ : ∃ u, w2.cell? ⟨w.heap.size, ((m : Int) / 8).toNat, none⟩ = some u := by
      rw [HO2.out.cellAt _ (by omega)]
      exact ⟨_, List.getElem?_eq_getElem (by have := HO2.out.1; omega)⟩
    have HR : Hid (cellsL (keepL s.data.toList m) = (cellsL (s.data.toList.take (m / 8) ++ List.replicate (s.size - m / 8) 0)).set ((m : Int) / 8).toNat (.int .u8 ((mask s[m / 8].toNat (m % 8) : Nat) : Int))) := by
      have := HP.out
      rw [if_neg h0, getD_byte s (m / 8) hk] at this
      refine Lib.hid ?_
      rw [this, ho]
      unfold cellsL
      rw [List.map_set, ofNat_mask]
    have hand : bits BinOp.and IntKind.u8 (s[((m : Int) / 8).toNat].toNat : Int) ((255 * 2 ^ (8 - m % 8) % 256 : Nat) : Int) = ((mask s[m / 8].toNat (m % 8) : Nat) : Int) := by
      have := and_high s[m / 8].toNat (m % 8) (UInt8.toNat_lt _) (by omega)
      simp only [ho]
      exact this
    have HO' := Lib.hid ho
    clear ho
    generalize mask s[m / 8].toNat (m % 8) = mv at *
    have HH : Hid (∀ w, Calls Tryz.prog 159 #[.int .i64 ((m : Int) % 8)] w fun e w' => e = .returned (.int .u8 ((255 * 2 ^ (8 - m % 8) % 256 : Nat) : Int)) ∧ w = w') := by
      have := fun w => high_in (m % 8) w (by omega)
      rw [show ((m % 8 : Nat) : Int) = (m : Int) % 8 by omega] at this
      exact Lib.hid this
    generalize 255 * 2 ^ (8 - m % 8) % 256 = hv at *
    have hbd : (0 : Int) ≤ (m : Int) / 8 ∧ (m : Int) / 8 < (s.size : Int) := by omega
    have hq1 : IntKind.i64.wrap ((m : Int).tdiv 8) = (m : Int) / 8 := IntWalk.i64_quo _ _ (by omega)
    have hq2 : wrap64 ((m : Int).tdiv 8) = (m : Int) / 8 := by rw [← IntWalk.i64_left]; exact hq1
    have hq3 : IntKind.i64.wrap ((m : Int) / 8) = (m : Int) / 8 := IntWalk.i64_in _ (by omega)
    have hq4 : (m : Int).tdiv 8 = (m : Int) / 8 := Int.tdiv_eq_ediv_of_nonneg (by omega)
    have hq5 : (m : Int).tmod 8 = (m : Int) % 8 := Int.tmod_eq_emod_of_nonneg (by omega)
    have hq6 : IntKind.i64.wrap ((m : Int) % 8) = (m : Int) % 8 := IntWalk.i64_in _ (by omega)
    go_wp2
    go_region_with (go_at_call 159; refine (HH.out _).mono ?_; rintro e w9 ⟨rfl, rfl⟩)
    all_goals
      have HC : Hid ((w2.setCell ⟨w.heap.size, ((m : Int) / 8).toNat, none⟩ (.int .u8 (mv : Int))).drew.ownsRow w.heap.size 5 1 (.slice (some ⟨w.heap.size, 0, none⟩) s.size s.size) s.size (cellsL (keepL s.data.toList n.toNat))) := by
        have h3 := (HO2.out).stored ((m : Int) / 8).toNat (.int .u8 (mv : Int))
        refine Lib.hid ?_
        rw [HK.out, HR.out]
        exact World.ownsRow.drew h3.1
      have HB3 : Hid (Below w.heap.size w (w2.setCell ⟨w.heap.size, ((m : Int) / 8).toNat, none⟩ (.int .u8 (mv : Int))).drew) := Lib.hid ((HB2.out.setCell (Nat.le_refl _) _).drew)
      clear HO2 HP hcl hfr hand HB2 HR HK HO' hq1 hq2 hq3 hq4 hq5 hq6 HH
      generalize (w2.setCell ⟨w.heap.size, ((m : Int) / 8).toNat, none⟩ (.int .u8 (mv : Int))).drew = w3 at *
      have hc := conv_row w3 w.heap.size s.size w.heap.size (keepL s.data.toList n.toNat) s.size (by rw [keepL_length, len_list]) HC.out
      clear HC
      go_wp2
      go_ret
      exact ⟨rfl, HB3.out⟩

/-- a bit that is 0 may be kept or not -/
theorem keepL_skip (l : List UInt8) (i : Nat) (h : bitL l i = false) : keepL l (i + 1) = keepL l i := by
  apply list_ext (by simp [keepL_length])
  intro j _
  rw [bitL_keep, bitL_keep]
  by_cases e : j = i
  · rw [e, h]; simp
  · congr 1
    by_cases hj : j < i <;> simp [hj] <;> omega

theorem keepL_add (l : List UInt8) (i : Nat) (h : i < 8 * l.length) (hb : bitL l i = true) :
    cellsL (keepL l (i + 1)) = (cellsL (keepL l i)).set (i / 8) (.int .u8 ((mask (l.getD (i / 8) 0).toNat (i % 8) + 2 ^ (7 - i % 8) : Nat) : Int)) := by
  rw [keepL_set l i h]
  unfold cellsL
  rw [List.map_set, ofNat_mask, mask_next _ _ (UInt8.toNat_lt _) (by omega)]
  have e : bitN (l[i / 8]'(by omega)).toNat (i % 8) = true := by
    unfold bitL at hb
    rw [getD_in _ _ (show i / 8 < l.length by omega)] at hb
    exact hb
  rw [if_pos e, getD_in _ _ (show i / 8 < l.length by omega)]

theorem keepL_cell (l : List UInt8) (i : Nat) (h : i < 8 * l.length) : (cellsL (keepL l i))[i / 8]? = some (.int .u8 ((mask (l.getD (i / 8) 0).toNat (i % 8) : Nat) : Int)) := by
  have hk : i / 8 < (keepL l i).length := by rw [keepL_length]; omega
  unfold cellsL
  rw [List.getElem?_map, List.getElem?_eq_getElem hk]
  show some (Value.int .u8 (((keepL l i)[i / 8]).toNat : Int)) = _
  rw [keepL_get, getD_in _ _ (show i / 8 < l.length by omega)]
  congr 5
  omega

theorem mask_room (b p : Nat) (hb : b < 256) (hp : p < 8) : mask b p + 2 ^ (7 - p) < 256 := by
  rw [mask_eq]
  have : p = 0 ∨ p = 1 ∨ p = 2 ∨ p = 3 ∨ p = 4 ∨ p = 5 ∨ p = 6 ∨ p = 7 := by omega
  rcases this with rfl | rfl | rfl | rfl | rfl | rfl | rfl | rfl <;> simp <;> omega

theorem sum_byte (a k : Nat) (h : a + 2 ^ k < 256) : ((a : Int) + 2 ^ k) % 256 = ((a + 2 ^ k : Nat) : Int) := by
  have e : (2 : Int) ^ k = ((2 ^ k : Nat) : Int) := by simp
  rw [e]
  generalize 2 ^ k = q at *
  omega

set_option maxHeartbeats 800000 in
theorem rkeep_any (s : ByteArray) (n : Int) (w : World) (hs : s.size ≤ 1048576) :
    Calls Tryz.prog 85 #[.string s, .int .i64 n] w fun e w' => e = .returned (.string ⟨(keepL s.data.toList n.toNat).toArray⟩) ∧ Below w.heap.size w w' := by
  obtain ⟨i0, hi, hz0, hz1, hz2⟩ := info_parts info5
  have HK : Hid (keepL s.data.toList n.toNat = keepL s.data.toList (inZ s n)) := by
    have := keepL_min s.data.toList n.toNat
    rw [len_list] at this
    exact Lib.hid this.symm
  have hm : inZ s n ≤ 8 * s.size := by unfold inZ; omega
  have hmn : ∀ i : Nat, ((i : Int) < n ∧ i < 8 * s.size) ↔ i < inZ s n := by intro i; unfold inZ; omega
  generalize inZ s n = m at *
  have HMN := Lib.hid hmn
  clear hmn
  go_enter Tryz.func85, Tryz.ntmps85
  go_wp2_with (at_make; refine wpList_make_full _ rfl _ _ 63 rfl w.heap.size 5 i0 (.int .u8 0) 1 Tryz.underlying63 hi hz0 hz1 _ _ _ _ s.size rfl rfl rfl rfl (by rw [hz2]; omega) (by unfold maxLen; omega) (by simp) ?_)
  intro w1 hown hgrow
  have HB : Hid (Below w.heap.size w w1) := Lib.hid ((Below.refl _ _).grown hgrow (Nat.le_refl _) (fun k hk => by cases hk))
  have HO : Hid (w1.ownsRow w.heap.size 5 1 (.slice (some ⟨w.heap.size, 0, none⟩) s.size s.size) s.size (cellsL (keepL s.data.toList 0))) := by
    rw [keepL_none, len_list]
    have e : cellsL (List.replicate s.size (0 : UInt8)) = (madeCells #[Value.int .u8 0] s.size).toList := by rw [toList_madeCells_one]; simp [cellsL]
    rw [e]; exact Lib.hid hown
  clear hown hgrow hi hz0 hz1 hz2
  go_wp2
  go_loopw [6] (fun i wr => ∃ j : Nat, j ≤ m ∧ i = .int .i64 j ∧ Hid (wr.ownsRow w.heap.size 5 1 (.slice (some ⟨w.heap.size, 0, none⟩) s.size s.size) s.size (cellsL (keepL s.data.toList j))) ∧ Hid (Below w.heap.size w wr))
    (fun i _ => m - (intOf i).toNat)
  case atStart => exact ⟨0, Nat.zero_le _, rfl, HO, HB⟩
  case round =>
    obtain ⟨j, hj, rfl, HO1, HB1⟩ := hrel
    clear HO HB
    by_cases hlt : j < m
    · have hjn := ((HMN.out j).2 hlt).1
      have hj8 := ((HMN.out j).2 hlt).2
      by_cases hbit : bitL s.data.toList j = true
      · have hbz : bitZ s (j : Nat) = true := by rw [bitZ_nat]; exact hbit
        have hfr := HO1.out.frozenAt (j / 8)
        have hcl := (HO1.out.cellAt (j / 8) (by omega)).trans (keepL_cell s.data.toList j (by rw [len_list]; exact hj8))
        have hroom := mask_room (s.data.toList.getD (j / 8) 0).toNat (j % 8) (UInt8.toNat_lt _) (by omega)
        have HR := Lib.hid (keepL_add s.data.toList j (by rw [len_list]; exact hj8) hbit)
        generalize mask (s.data.toList.getD (j / 8) 0).toNat (j % 8) = mv at *
        clear hbit
        go_wp2_with fail
        refine (rbit_any _ _ _ hs).mono ?_
        rintro e w9 ⟨rfl, rfl⟩
        rw [hbz]
        clear hbz
        have HV := Lib.hid (sum_byte mv (7 - j % 8) hroom)
        go_wp2
        go_roundw
        case rel =>
          refine ⟨j + 1, by omega, by go_num, Lib.hid ?_, Lib.hid ?_⟩
          · have := (HO1.out.stored (j / 8) (.int .u8 ((mv + 2 ^ (7 - j % 8) : Nat) : Int))).1
            rw [← HR.out] at this
            rw [HV.out]
            exact this
          · exact HB1.out.setCell (Nat.le_refl _) _
        case measure => simp [intOf]; omega
      · have hbz : bitZ s (j : Nat) = false := by rw [bitZ_nat]; simpa using hbit
        have HR := Lib.hid (keepL_skip s.data.toList j (by simpa using hbit))
        clear hbit
        go_wp2_with fail
        refine (rbit_any _ _ _ hs).mono ?_
        rintro e w9 ⟨rfl, rfl⟩
        rw [hbz]
        clear hbz
        go_wp2
        go_roundw
        case rel => exact ⟨j + 1, by omega, by go_num, Lib.hid (by rw [HR.out]; exact HO1.out), HB1⟩
        case measure => simp [intOf]; omega
    · obtain rfl : j = m := by omega
      have hc := conv_row wr w.heap.size s.size w.heap.size (keepL s.data.toList n.toNat) s.size (by rw [keepL_length, len_list]) (by rw [HK.out]; exact HO1.out)
      have hend := (not_congr (HMN.out j)).2 (Nat.lt_irrefl j)
      by_cases h8 : j < 8 * s.size
      · have hjn : ¬ (j : Int) < n := fun h => hend ⟨h, h8⟩
        clear hend
        go_wp2
        go_ret
        exact ⟨rfl, HB1.out⟩
      · clear hend
        go_wp2
        go_ret
        exact ⟨rfl, HB1.out⟩

/-- are all bits from the n-th on 0? -/
def cleanZ (s : ByteArray) (n : Int) : Bool := decide (keepL s.data.toList n.toNat = s.data.toList)

set_option maxHeartbeats 400000 in
theorem clean_any (s : ByteArray) (n : Int) (w : World) (hs : s.size ≤ 1048576) :
    Calls Tryz.prog 144 #[.string s, .int .i64 n] w fun e w' => e = .returned (.bool (cleanZ s n)) ∧ Below w.heap.size w w' := by
  go_enter Tryz.func144, Tryz.ntmps144
  go_wp2_with fail
  refine (keep_any _ _ _ hs).mono ?_
  rintro e w1 ⟨rfl, hb1⟩
  go_wp2
  go_ret
  exact ⟨bool_eq (by unfold cleanZ; rw [Bool.eq_iff_iff]; simp only [beq_iff_eq, decide_eq_true_eq]; rw [ByteArray.toList_eq]), hb1⟩

end Go.Proofs.YtjhfpobjbijcpaaGreatDoor.Bits
namespace Go.Proofs.YtjhfpobjbijcpaaGreatDoor.Pre
open Go.ChangeShapes Go.WideShapes Go.ChangeAt Go.RowKit
open Go.Proofs.YtjhfpobjbijcpaaGreatDoor.Bits
set_option linter.unusedVariables false
set_option maxRecDepth 100000

/-- how many bytes have the first n bits -/
def leastN (n : Int) : Nat := (n.toNat + 7) / 8

set_option maxHeartbeats 400000 in
theorem least_any (n : Int) (w : World) (h : -9223372036854775808 ≤ n ∧ n ≤ 9223372036854775807) :
    Calls Tryz.prog 148 #[.int .i64 n] w fun e w' => e = .returned (.int .i64 (leastN n : Nat)) ∧ w = w' := by
  by_cases h0 : n ≤ 0
  · go_enter Tryz.func148, Tryz.ntmps148
    go_wp2
    go_ret
    exact ⟨int_eq (by unfold leastN; omega), rfl⟩
  · go_enter Tryz.func148, Tryz.ntmps148
    go_wp2
    go_ret
    exact ⟨int_eq (by unfold leastN; omega), rfl⟩

set_option maxHeartbeats 400000 in
theorem rleast_any (n : Int) (w : World) (h : -9223372036854775808 ≤ n ∧ n ≤ 1099511627776) :
    Calls Tryz.prog 86 #[.int .i64 n] w fun e w' => e = .returned (.int .i64 (leastN n : Nat)) ∧ w = w' := by
  by_cases h0 : n < 0
  · go_enter Tryz.func86, Tryz.ntmps86
    go_wp2
    go_ret
    exact ⟨int_eq (by unfold leastN; omega), rfl⟩
  · go_enter Tryz.func86, Tryz.ntmps86
    go_wp2
    go_ret
    exact ⟨int_eq (by unfold leastN; omega), rfl⟩

/-- is it a prefix? -/
def rightZ (s : ByteArray) (n : Int) : Bool := (decide (s.size = 4) || decide (s.size = 16)) && (decide (0 ≤ n) && (decide (n ≤ 8 * (s.size : Int)) && cleanZ s n))

set_option maxHeartbeats 800000 in
theorem right_any (s : ByteArray) (n : Int) (w : World) (hs : s.size ≤ maxLen) :
    Calls Tryz.prog 122 #[.string s, .int .i64 n] w fun e w' => e = .returned (.bool (rightZ s n)) ∧ Below w.heap.size w w' := by
  have hm := hs
  unfold maxLen at hm
  by_cases h4 : s.size = 4 ∨ s.size = 16
  · by_cases h0 : 0 ≤ n
    · by_cases h8 : n ≤ 8 * (s.size : Int)
      · have HC := Lib.hid (fun w => clean_any s n w (by omega))
        have HR : Hid (rightZ s n = cleanZ s n) := Lib.hid (by unfold rightZ; rcases h4 with h4 | h4 <;> simp [h4, h0] <;> omega)
        rw [HR.out]
        clear HR
        rcases h4 with h4 | h4
        · go_enter Tryz.func122, Tryz.ntmps122
          go_wp2_with fail
          refine (HC.out _).mono ?_
          rintro e w1 ⟨rfl, hb1⟩
          go_wp2
          go_ret
          exact ⟨rfl, hb1⟩
        · go_enter Tryz.func122, Tryz.ntmps122
          go_wp2_with fail
          refine (HC.out _).mono ?_
          rintro e w1 ⟨rfl, hb1⟩
          go_wp2
          go_ret
          exact ⟨rfl, hb1⟩
      · have HR : Hid (rightZ s n = false) := Lib.hid (by unfold rightZ; simp [h8])
        rw [HR.out]
        clear HR
        rcases h4 with h4 | h4
        · go_enter Tryz.func122, Tryz.ntmps122
          go_wp2
          go_ret
          exact ⟨rfl, Below.refl _ _⟩
        · go_enter Tryz.func122, Tryz.ntmps122
          go_wp2
          go_ret
          exact ⟨rfl, Below.refl _ _⟩
    · have HR : Hid (rightZ s n = false) := Lib.hid (by unfold rightZ; simp [h0])
      rw [HR.out]
      clear HR
      rcases h4 with h4 | h4
      · go_enter Tryz.func122, Tryz.ntmps122
        go_wp2
        go_ret
        exact ⟨rfl, Below.refl _ _⟩
      · go_enter Tryz.func122, Tryz.ntmps122
        go_wp2
        go_ret
        exact ⟨rfl, Below.refl _ _⟩
  · have HR : Hid (rightZ s n = false) := Lib.hid (by unfold rightZ; simp at h4; simp [h4])
    rw [HR.out]
    clear HR
    obtain ⟨ha, hb⟩ := not_or.1 h4
    clear h4
    go_enter Tryz.func122, Tryz.ntmps122
    go_wp2
    go_ret
    exact ⟨rfl, Below.refl _ _⟩

/-- what is kept of the first bytes is the first bytes of what is kept -/
theorem keepL_take (l : List UInt8) (k n : Nat) : keepL (l.take k) n = (keepL l n).take k := by
  unfold keepL
  apply List.ext_getElem?
  intro i
  by_cases h : i < k
  · rw [List.getElem?_take_of_lt h, List.getElem?_mapIdx, List.getElem?_mapIdx, List.getElem?_take_of_lt h]
  · rw [List.getElem?_eq_none (by simp; omega), List.getElem?_eq_none (by simp; omega)]

/-- the first bytes of an address, as many as have the bits -/
def cutL (l : List UInt8) (n : Int) : List UInt8 := (keepL l n.toNat).take (leastN n)

theorem head_list (s : ByteArray) (k : Nat) : (s.extract 0 k).data.toList = s.data.toList.take k := by simp

theorem cut_less (s : ByteArray) (n : Int) : keepL (s.extract 0 (leastN n)).data.toList n.toNat = cutL s.data.toList n := by
  rw [head_list, keepL_take]; rfl

theorem cut_more (s : ByteArray) (n : Int) (h : s.size < leastN n) : s = ⟨(cutL s.data.toList n).toArray⟩ := by
  have e : cutL s.data.toList n = s.data.toList := by
    unfold cutL
    rw [List.take_of_length_le (by rw [keepL_length, len_list]; omega)]
    exact keepL_all _ _ (by rw [len_list]; unfold leastN at h; omega)
  rw [e]

set_option maxHeartbeats 800000 in
theorem cut_any (s : ByteArray) (n : Int) (w : World) (hs : s.size ≤ 1048576) (h : -9223372036854775808 ≤ n ∧ n ≤ 9223372036854775807) :
    Calls Tryz.prog 131 #[.string s, .int .i64 n] w fun e w' => e = .returned (.string ⟨(cutL s.data.toList n).toArray⟩) ∧ Below w.heap.size w w' := by
  have HL := Lib.hid (fun w => least_any n w h)
  have HM := Lib.hid (cut_more s n)
  have HE := Lib.hid (cut_less s n)
  by_cases hk : leastN n ≤ s.size
  · have HK := Lib.hid (fun w => keep_any (s.extract 0 (leastN n)) n w (by simp; omega))
    rw [HE.out] at HK
    clear HM HE
    generalize ByteArray.mk (cutL s.data.toList n).toArray = cv at *
    generalize leastN n = k at *
    have hsl : ∀ wx, Sem.run Tryz.prog (Instr.slice 9 (Value.string s) none (some (Value.int IntKind.i64 (k : Int))) none) wx = .ok (.string (s.extract 0 k)) wx := by
      intro wx
      have := run_slice_string_h (P := Tryz.prog) wx 9 s Tryz.underlying9 .i64 (k : Int) (by omega) (by omega)
      exact this
    generalize s.extract 0 k = x at *
    go_enter Tryz.func131, Tryz.ntmps131
    go_wp2_with fail
    refine (HL.out _).mono ?_
    rintro e w1 ⟨rfl, rfl⟩
    go_wp2_with fail
    refine (HK.out _).mono ?_
    rintro e w1 ⟨rfl, hb1⟩
    go_wp2
    go_ret
    exact ⟨rfl, hb1⟩
  · have HQ := Lib.hid (HM.out (by omega))
    clear HM HE
    generalize ByteArray.mk (cutL s.data.toList n).toArray = cv at *
    generalize leastN n = k at *
    go_enter Tryz.func131, Tryz.ntmps131
    go_wp2_with fail
    refine (HL.out _).mono ?_
    rintro e w1 ⟨rfl, rfl⟩
    go_wp2
    go_ret
    exact ⟨ret_string HQ.out, Below.refl _ _⟩

/-- bytes, and noughts behind them up to so many -/
def fillL (l : List UInt8) (m : Nat) : List UInt8 := l ++ List.replicate (m - l.length) 0

theorem fillL_length (l : List UInt8) (m : Nat) (h : l.length ≤ m) : (fillL l m).length = m := by simp [fillL]; omega

theorem fill_step (l : List UInt8) (j : Nat) : fillL l (l.length + j) ++ [0] = fillL l (l.length + (j + 1)) := by
  unfold fillL
  rw [List.append_assoc]
  congr 1
  rw [show l.length + (j + 1) - l.length = (l.length + j - l.length) + 1 by omega, List.replicate_succ']

set_option maxHeartbeats 800000 in
theorem rfill_any (s : ByteArray) (m : Int) (w : World) (hs : s.size ≤ 1048576) (h : m ≤ 1048576) :
    Calls Tryz.prog 116 #[.string s, .int .i64 m] w fun e w' => e = .returned (.string ⟨(fillL s.data.toList m.toNat).toArray⟩) ∧ w = w' := by
  go_enter Tryz.func116, Tryz.ntmps116
  go_wp2
  go_loop [0] (fun v => ∃ x : ByteArray, ∃ j : Nat, v = .string x ∧ x.data.toList = fillL s.data.toList (s.data.toList.length + j) ∧ x.size = s.size + j ∧ (j = 0 ∨ ((s.size : Int) + j ≤ m)))
    (fun v => m.toNat - (match v with | .string x => x.size | _ => 0))
  case atStart => exact ⟨s, 0, rfl, by simp [fillL], rfl, .inl rfl⟩
  case round =>
    obtain ⟨x, j, rfl, hx, hxs, hj⟩ := hrel
    have HX := Lib.hid hx
    clear hx
    by_cases hlt : (x.size : Int) < m
    · go_wp2
      go_round
      case rel => exact ⟨_, j + 1, rfl, by rw [← fill_step, ← HX.out]; simp, by rw [ByteArray.size_append, hxs]; rfl, .inr (by omega)⟩
      case measure =>
        have e : (x ++ { data := #[0] } : ByteArray).size = x.size + 1 := ByteArray.size_append
        show m.toNat - (x ++ { data := #[0] } : ByteArray).size < m.toNat - x.size
        omega
    · have HQ : Hid (x = ⟨(fillL s.data.toList m.toNat).toArray⟩) := by
        refine Lib.hid (bytes_inj ?_)
        rw [HX.out]
        unfold fillL
        rw [len_list]
        congr 2
        omega
      go_wp2
      go_ret
      exact ⟨ret_string HQ.out, rfl⟩

/-- how many bytes are alike -/
def leadN (a b : ByteArray) : Nat := alikeN a.data.toList b.data.toList / 8

set_option maxHeartbeats 400000 in
theorem lead_any (a b : ByteArray) (w : World) (ha : a.size ≤ 1048576) (hb : b.size ≤ 1048576) :
    Calls Tryz.prog 132 #[.string a, .string b] w fun e w' => e = .returned (.int .i64 (leadN a b : Nat)) ∧ Below w.heap.size w w' := by
  have HA := Lib.hid (fun w => alike_any a b w ha hb)
  have hl := alike_le a.data.toList b.data.toList
  rw [len_list, len_list] at hl
  have hq : alikeN a.data.toList b.data.toList ≤ 8388608 := by omega
  clear hl
  unfold leadN
  generalize alikeN a.data.toList b.data.toList = n at *
  go_enter Tryz.func132, Tryz.ntmps132
  go_wp2_with fail
  refine (HA.out _).mono ?_
  rintro e w1 ⟨rfl, hb1⟩
  go_wp2
  go_ret
  exact ⟨int_eq (by omega), hb1⟩

end Go.Proofs.YtjhfpobjbijcpaaGreatDoor.Pre
