/-
  The calls of layer 4, and the document's own: Least, Right, Cut, Fill, Lead.
-/
import Derived.Test.YtejcnjmcodceaaaAwake
import Derived.Lib.MinMax
namespace Go.Proofs.Ytejcnjmcodceaaa.Pre
open Go.ChangeShapes Go.WideShapes Go.ChangeAt Go.RowKit
open Go.Proofs.Ytejcnjmcodceaaa.Bits
set_option linter.unusedVariables false

/-- how many bytes have the first n bits -/
def leastN (n : Int) : Nat := (n.toNat + 7) / 8

set_option maxHeartbeats 400000 in
theorem least_any (n : Int) (w : World) (h : -9223372036854775808 ≤ n ∧ n ≤ 9223372036854775807) :
    Calls Try.prog 9 #[.int .i64 n] w fun e w' => e = .returned (.int .i64 (leastN n : Nat)) ∧ w = w' := by
  by_cases h0 : n ≤ 0
  · go_enter Try.func9, Try.ntmps9
    go_wp2
    go_ret
    exact ⟨int_eq (by unfold leastN; omega), rfl⟩
  · go_enter Try.func9, Try.ntmps9
    go_wp2
    go_ret
    exact ⟨int_eq (by unfold leastN; omega), rfl⟩

set_option maxHeartbeats 400000 in
theorem rleast_any (n : Int) (w : World) (h : -9223372036854775808 ≤ n ∧ n ≤ 1099511627776) :
    Calls Try.prog 10 #[.int .i64 n] w fun e w' => e = .returned (.int .i64 (leastN n : Nat)) ∧ w = w' := by
  by_cases h0 : n < 0
  · go_enter Try.func10, Try.ntmps10
    go_wp2
    go_ret
    exact ⟨int_eq (by unfold leastN; omega), rfl⟩
  · go_enter Try.func10, Try.ntmps10
    go_wp2
    go_ret
    exact ⟨int_eq (by unfold leastN; omega), rfl⟩

/-- is it a prefix? -/
def rightZ (s : ByteArray) (n : Int) : Bool := (decide (s.size = 4) || decide (s.size = 16)) && (decide (0 ≤ n) && (decide (n ≤ 8 * (s.size : Int)) && cleanZ s n))

set_option maxHeartbeats 800000 in
theorem right_any (s : ByteArray) (n : Int) (w : World) (hs : s.size ≤ maxLen) :
    Calls Try.prog 7 #[.string s, .int .i64 n] w fun e w' => e = .returned (.bool (rightZ s n)) ∧ Below w.heap.size w w' := by
  have hm := hs
  unfold maxLen at hm
  by_cases h4 : s.size = 4 ∨ s.size = 16
  · by_cases h0 : 0 ≤ n
    · by_cases h8 : n ≤ 8 * (s.size : Int)
      · have HC := Lib.hid (fun w => clean_any s n w (by omega))
        have HR : Hid (rightZ s n = cleanZ s n) := Lib.hid (by unfold rightZ; rcases h4 with h4 | h4 <;> simp [h4, h0] <;> omega)
        rw [HR.out]
        clear HR
        rcases h4 with h4 | h4
        · go_enter Try.func7, Try.ntmps7
          go_wp2_with fail
          refine (HC.out _).mono ?_
          rintro e w1 ⟨rfl, hb1⟩
          go_wp2
          go_ret
          exact ⟨rfl, hb1⟩
        · go_enter Try.func7, Try.ntmps7
          go_wp2_with fail
          refine (HC.out _).mono ?_
          rintro e w1 ⟨rfl, hb1⟩
          go_wp2
          go_ret
          exact ⟨rfl, hb1⟩
      · have HR : Hid (rightZ s n = false) := Lib.hid (by unfold rightZ; simp [h8])
        rw [HR.out]
        clear HR
        rcases h4 with h4 | h4
        · go_enter Try.func7, Try.ntmps7
          go_wp2
          go_ret
          exact ⟨rfl, Below.refl _ _⟩
        · go_enter Try.func7, Try.ntmps7
          go_wp2
          go_ret
          exact ⟨rfl, Below.refl _ _⟩
    · have HR : Hid (rightZ s n = false) := Lib.hid (by unfold rightZ; simp [h0])
      rw [HR.out]
      clear HR
      rcases h4 with h4 | h4
      · go_enter Try.func7, Try.ntmps7
        go_wp2
        go_ret
        exact ⟨rfl, Below.refl _ _⟩
      · go_enter Try.func7, Try.ntmps7
        go_wp2
        go_ret
        exact ⟨rfl, Below.refl _ _⟩
  · have HR : Hid (rightZ s n = false) := Lib.hid (by unfold rightZ; simp at h4; simp [h4])
    rw [HR.out]
    clear HR
    obtain ⟨ha, hb⟩ := not_or.1 h4
    clear h4
    go_enter Try.func7, Try.ntmps7
    go_wp2
    go_ret
    exact ⟨rfl, Below.refl _ _⟩

set_option maxHeartbeats 800000 in
theorem rright_any (s : ByteArray) (n : Int) (w : World) (hs : s.size ≤ maxLen) :
    Calls Try.prog 8 #[.string s, .int .i64 n] w fun e w' => e = .returned (.bool (rightZ s n)) ∧ Below w.heap.size w w' := by
  have hm := hs
  unfold maxLen at hm
  by_cases h4 : s.size = 4 ∨ s.size = 16
  · by_cases h0 : 0 ≤ n
    · by_cases h8 : n ≤ 8 * (s.size : Int)
      · have HC := Lib.hid (fun w => rclean_any s n w (by omega))
        have HR : Hid (rightZ s n = cleanZ s n) := Lib.hid (by unfold rightZ; rcases h4 with h4 | h4 <;> simp [h4, h0] <;> omega)
        rw [HR.out]
        clear HR
        rcases h4 with h4 | h4
        · go_enter Try.func8, Try.ntmps8
          go_wp2_with fail
          refine (HC.out _).mono ?_
          rintro e w1 ⟨rfl, hb1⟩
          go_wp2
          go_ret
          exact ⟨rfl, hb1⟩
        · go_enter Try.func8, Try.ntmps8
          go_wp2_with fail
          refine (HC.out _).mono ?_
          rintro e w1 ⟨rfl, hb1⟩
          go_wp2
          go_ret
          exact ⟨rfl, hb1⟩
      · have HR : Hid (rightZ s n = false) := Lib.hid (by unfold rightZ; simp [h8])
        rw [HR.out]
        clear HR
        rcases h4 with h4 | h4
        · go_enter Try.func8, Try.ntmps8
          go_wp2
          go_ret
          exact ⟨rfl, Below.refl _ _⟩
        · go_enter Try.func8, Try.ntmps8
          go_wp2
          go_ret
          exact ⟨rfl, Below.refl _ _⟩
    · have HR : Hid (rightZ s n = false) := Lib.hid (by unfold rightZ; simp [h0])
      rw [HR.out]
      clear HR
      rcases h4 with h4 | h4
      · go_enter Try.func8, Try.ntmps8
        go_wp2
        go_ret
        exact ⟨rfl, Below.refl _ _⟩
      · go_enter Try.func8, Try.ntmps8
        go_wp2
        go_ret
        exact ⟨rfl, Below.refl _ _⟩
  · have HR : Hid (rightZ s n = false) := Lib.hid (by unfold rightZ; simp at h4; simp [h4])
    rw [HR.out]
    clear HR
    obtain ⟨ha, hb⟩ := not_or.1 h4
    clear h4
    go_enter Try.func8, Try.ntmps8
    go_wp2
    go_ret
    exact ⟨rfl, Below.refl _ _⟩

/-- what is kept of the first bytes is the first bytes of what is kept -/
theorem keepL_take (l : List UInt8) (k n : Nat) : keepL (l.take k) n = (keepL l n).take k := by
  unfold keepL
  apply List.ext_getElem?
  intro i
  by_cases h : i < k
  · rw [List.getElem?_take_of_lt h, List.getElem?_mapIdx, List.getElem?_mapIdx, List.getElem?_take_of_lt h]
  · rw [List.getElem?_eq_none (by simp; omega), List.getElem?_eq_none (by simp; omega)]

/-- the first bytes of an address, as many as have the bits -/
def cutL (l : List UInt8) (n : Int) : List UInt8 := (keepL l n.toNat).take (leastN n)

theorem head_list (s : ByteArray) (k : Nat) : (s.extract 0 k).data.toList = s.data.toList.take k := by simp

theorem cut_less (s : ByteArray) (n : Int) : keepL (s.extract 0 (leastN n)).data.toList n.toNat = cutL s.data.toList n := by
  rw [head_list, keepL_take]; rfl

theorem cut_more (s : ByteArray) (n : Int) (h : s.size < leastN n) : s = ⟨(cutL s.data.toList n).toArray⟩ := by
  have e : cutL s.data.toList n = s.data.toList := by
    unfold cutL
    rw [List.take_of_length_le (by rw [keepL_length, len_list]; omega)]
    exact keepL_all _ _ (by rw [len_list]; unfold leastN at h; omega)
  rw [e]

set_option maxHeartbeats 800000 in
theorem cut_any (s : ByteArray) (n : Int) (w : World) (hs : s.size ≤ 1048576) (h : -9223372036854775808 ≤ n ∧ n ≤ 9223372036854775807) :
    Calls Try.prog 11 #[.string s, .int .i64 n] w fun e w' => e = .returned (.string ⟨(cutL s.data.toList n).toArray⟩) ∧ Below w.heap.size w w' := by
  have HL := Lib.hid (fun w => least_any n w h)
  have HM := Lib.hid (cut_more s n)
  have HE := Lib.hid (cut_less s n)
  by_cases hk : leastN n ≤ s.size
  · have HK := Lib.hid (fun w => keep_any (s.extract 0 (leastN n)) n w (by simp; omega))
    rw [HE.out] at HK
    clear HM HE
    generalize ByteArray.mk (cutL s.data.toList n).toArray = cv at *
    generalize leastN n = k at *
    have hsl : ∀ wx, Sem.run Try.prog (Instr.slice 9 (Value.string s) none (some (Value.int IntKind.i64 (k : Int))) none) wx = .ok (.string (s.extract 0 k)) wx := by
      intro wx
      have := run_slice_string_h (P := Try.prog) wx 9 s Try.underlying9 .i64 (k : Int) (by omega) (by omega)
      exact this
    generalize s.extract 0 k = x at *
    go_enter Try.func11, Try.ntmps11
    go_wp2_with fail
    refine (HL.out _).mono ?_
    rintro e w1 ⟨rfl, rfl⟩
    go_wp2_with fail
    refine (HK.out _).mono ?_
    rintro e w1 ⟨rfl, hb1⟩
    go_wp2
    go_ret
    exact ⟨rfl, hb1⟩
  · have HQ := Lib.hid (HM.out (by omega))
    clear HM HE
    generalize ByteArray.mk (cutL s.data.toList n).toArray = cv at *
    generalize leastN n = k at *
    go_enter Try.func11, Try.ntmps11
    go_wp2_with fail
    refine (HL.out _).mono ?_
    rintro e w1 ⟨rfl, rfl⟩
    go_wp2
    go_ret
    exact ⟨ret_string HQ.out, Below.refl _ _⟩

set_option maxHeartbeats 800000 in
theorem rcut_any (s : ByteArray) (n : Int) (w : World) (hs : s.size ≤ 1048576) (h : -9223372036854775808 ≤ n ∧ n ≤ 1099511627776) :
    Calls Try.prog 12 #[.string s, .int .i64 n] w fun e w' => e = .returned (.string ⟨(cutL s.data.toList n).toArray⟩) ∧ Below w.heap.size w w' := by
  have HL := Lib.hid (fun w => rleast_any n w h)
  have HK := Lib.hid (fun w => rkeep_any s n w hs)
  have HZ : Hid ((ByteArray.mk (keepL s.data.toList n.toNat).toArray).size = s.size) := Lib.hid (by show (keepL s.data.toList n.toNat).toArray.size = _; rw [List.size_toArray, keepL_length, len_list])
  have HE : Hid ((ByteArray.mk (keepL s.data.toList n.toNat).toArray).extract 0 (min (leastN n) s.size) = ⟨(cutL s.data.toList n).toArray⟩) := by
    refine Lib.hid (bytes_inj ?_)
    rw [head_list]
    show (keepL s.data.toList n.toNat).take _ = _
    unfold cutL
    rw [← List.take_take, List.take_of_length_le (l := keepL s.data.toList n.toNat) (by rw [keepL_length, len_list]; exact Nat.le_refl _)]
  generalize ByteArray.mk (cutL s.data.toList n).toArray = cv at *
  generalize ByteArray.mk (keepL s.data.toList n.toNat).toArray = x at *
  generalize leastN n = k at *
  have hsl : ∀ wx, Sem.run Try.prog (Instr.slice 9 (Value.string x) none (some (Value.int IntKind.i64 (min (k : Int) (s.size : Int)))) none) wx = .ok (.string cv) wx := by
    intro wx
    have := run_slice_string_h (P := Try.prog) wx 9 x Try.underlying9 .i64 (min (k : Int) (s.size : Int)) (by omega) (by have := HZ.out; omega)
    rw [show (min (k : Int) (s.size : Int)).toNat = min k s.size by omega, HE.out] at this
    exact this
  go_enter Try.func12, Try.ntmps12
  go_wp2_with fail
  refine (HK.out _).mono ?_
  rintro e w1 ⟨rfl, hb1⟩
  go_wp2_with fail
  refine (HL.out _).mono ?_
  rintro e w2 ⟨rfl, rfl⟩
  go_wp2
  go_ret
  exact ⟨rfl, hb1⟩

/-- bytes, and noughts behind them up to so many -/
def fillL (l : List UInt8) (m : Nat) : List UInt8 := l ++ List.replicate (m - l.length) 0

theorem fillL_length (l : List UInt8) (m : Nat) (h : l.length ≤ m) : (fillL l m).length = m := by simp [fillL]; omega

set_option maxHeartbeats 800000 in
theorem fill_any (s : ByteArray) (m : Int) (w : World) (hs : s.size ≤ 1048576) (h : m ≤ 1048576) :
    Calls Try.prog 13 #[.string s, .int .i64 m] w fun e w' => e = .returned (.string ⟨(fillL s.data.toList m.toNat).toArray⟩) ∧ Below w.heap.size w w' := by
  by_cases hk : m ≤ s.size
  · have HQ : Hid (s = ⟨(fillL s.data.toList m.toNat).toArray⟩) := by
      have e : fillL s.data.toList m.toNat = s.data.toList := by unfold fillL; rw [len_list, show m.toNat - s.size = 0 by omega]; simp
      exact Lib.hid (by rw [e])
    generalize ByteArray.mk (fillL s.data.toList m.toNat).toArray = fv at *
    go_enter Try.func13, Try.ntmps13
    go_wp2
    go_ret
    exact ⟨ret_string HQ.out, Below.refl _ _⟩
  · obtain ⟨k, rfl⟩ : ∃ k : Nat, m = k := ⟨m.toNat, by omega⟩
    rw [Int.toNat_natCast]
    have hk' : s.size < k := by omega
    clear hk
    obtain ⟨i0, hi, hz0, hz1, hz2⟩ := info_parts info5
    go_enter Try.func13, Try.ntmps13
    go_wp2_with (at_make; refine wpList_make_full _ rfl _ _ 32 rfl w.heap.size 5 i0 (.int .u8 0) 1 Try.underlying32 hi hz0 hz1 _ _ _ _ k rfl rfl rfl rfl (by rw [hz2]; omega) (by unfold maxLen; omega) (by simp) ?_)
    intro w1 hown hgrow
    have HG := Lib.hid hgrow
    have HO := Lib.hid hown
    clear hgrow hown
    have hsz : (Try.prog.info? 5).map (·.size) = some 1 := by rw [hi]; simp [hz1]
    go_wp2_with (with_reducible refine wpList_copy_str rfl (.tmp 17) (.tmp 18) 32 9 rfl 5 Try.underlying32 hsz w.heap.size k rfl _ rfl w.heap.size _ HO.out ?_ ?_)
    · omega
    intro w2 hown2 hgrow2
    have HB2 : Hid (Below w.heap.size w w2) := Lib.hid (((Below.refl _ _).grown HG.out (Nat.le_refl _) (fun k hk => by cases hk)).grown hgrow2 HG.out.size (fun k hk => by cases hk; exact Nat.le_refl _))
    have HO2 : Hid (w2.ownsRow w.heap.size 5 1 (.slice (some ⟨w.heap.size, 0, none⟩) k k) k (cellsL (fillL s.data.toList k))) := by
      have e : cellsL (fillL s.data.toList k) = cellsL s.data.toList ++ List.drop s.size (madeCells #[Value.int IntKind.u8 0] k).toList := by
        rw [toList_madeCells_one]
        simp [cellsL, fillL]
      exact Lib.hid (by rw [e]; exact hown2)
    clear hown2 hgrow2 HG HO hi hz0 hz1 hz2 hsz
    have hc := conv_row w2 w.heap.size k w.heap.size (fillL s.data.toList k) k (by rw [fillL_length _ _ (by rw [len_list]; omega)]) HO2.out
    clear HO2
    go_wp2
    go_ret
    exact ⟨rfl, HB2.out⟩

theorem fill_step (l : List UInt8) (j : Nat) : fillL l (l.length + j) ++ [0] = fillL l (l.length + (j + 1)) := by
  unfold fillL
  rw [List.append_assoc]
  congr 1
  rw [show l.length + (j + 1) - l.length = (l.length + j - l.length) + 1 by omega, List.replicate_succ']

set_option maxHeartbeats 800000 in
theorem rfill_any (s : ByteArray) (m : Int) (w : World) (hs : s.size ≤ 1048576) (h : m ≤ 1048576) :
    Calls Try.prog 14 #[.string s, .int .i64 m] w fun e w' => e = .returned (.string ⟨(fillL s.data.toList m.toNat).toArray⟩) ∧ w = w' := by
  go_enter Try.func14, Try.ntmps14
  go_wp2
  go_loop [0] (fun v => ∃ x : ByteArray, ∃ j : Nat, v = .string x ∧ x.data.toList = fillL s.data.toList (s.data.toList.length + j) ∧ x.size = s.size + j ∧ (j = 0 ∨ ((s.size : Int) + j ≤ m)))
    (fun v => m.toNat - (match v with | .string x => x.size | _ => 0))
  case atStart => exact ⟨s, 0, rfl, by simp [fillL], rfl, .inl rfl⟩
  case round =>
    obtain ⟨x, j, rfl, hx, hxs, hj⟩ := hrel
    have HX := Lib.hid hx
    clear hx
    by_cases hlt : (x.size : Int) < m
    · go_wp2
      go_round
      case rel => exact ⟨_, j + 1, rfl, by rw [← fill_step, ← HX.out]; simp, by rw [ByteArray.size_append, hxs]; rfl, .inr (by omega)⟩
      case measure =>
        have e : (x ++ { data := #[0] } : ByteArray).size = x.size + 1 := ByteArray.size_append
        show m.toNat - (x ++ { data := #[0] } : ByteArray).size < m.toNat - x.size
        omega
    · have HQ : Hid (x = ⟨(fillL s.data.toList m.toNat).toArray⟩) := by
        refine Lib.hid (bytes_inj ?_)
        rw [HX.out]
        unfold fillL
        rw [len_list]
        congr 2
        omega
      go_wp2
      go_ret
      exact ⟨ret_string HQ.out, rfl⟩

/-- how many bytes are alike -/
def leadN (a b : ByteArray) : Nat := alikeN a.data.toList b.data.toList / 8

set_option maxHeartbeats 400000 in
theorem lead_any (a b : ByteArray) (w : World) (ha : a.size ≤ 1048576) (hb : b.size ≤ 1048576) :
    Calls Try.prog 15 #[.string a, .string b] w fun e w' => e = .returned (.int .i64 (leadN a b : Nat)) ∧ Below w.heap.size w w' := by
  have HA := Lib.hid (fun w => alike_any a b w ha hb)
  have hl := alike_le a.data.toList b.data.toList
  rw [len_list, len_list] at hl
  have hq : alikeN a.data.toList b.data.toList ≤ 8388608 := by omega
  clear hl
  unfold leadN
  generalize alikeN a.data.toList b.data.toList = n at *
  go_enter Try.func15, Try.ntmps15
  go_wp2_with fail
  refine (HA.out _).mono ?_
  rintro e w1 ⟨rfl, hb1⟩
  go_wp2
  go_ret
  exact ⟨int_eq (by omega), hb1⟩

end Go.Proofs.Ytejcnjmcodceaaa.Pre
