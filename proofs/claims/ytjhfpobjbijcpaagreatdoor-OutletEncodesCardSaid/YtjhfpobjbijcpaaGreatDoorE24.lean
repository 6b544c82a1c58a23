/-
  The bytes of a TLV and of a datagram: Put and Wrap, the program's and the document's. Condition: at most 2^20 bytes.
-/
import Derived.Test.YtjhfpobjbijcpaaGreatDoorE14
namespace Go.Proofs.YtjhfpobjbijcpaaGreatDoor.F6
open Go.ChangeShapes Go.WideShapes Go.ChangeAt Go.RowKit
open Go.Proofs.YtjhfpobjbijcpaaGreatDoor.F1
open Go.Proofs.YtjhfpobjbijcpaaGreatDoor.F2
open Go.Proofs.YtjhfpobjbijcpaaGreatDoor.Nu
open Go.Proofs.YtjhfpobjbijcpaaGreatDoor.Oct (fitsB fitsB_iff pw be conv_row)
open Go.Proofs.YtjhfpobjbijcpaaGreatDoor.Bk (Bk)
set_option linter.unusedVariables false
set_option maxRecDepth 100000
set_option maxRecDepth 100000

theorem to8 (n : Int) (h0 : 0 ≤ n) (h1 : n ≤ 255) (W : World) : (convert 3 5 (.int .i64 n)).run Tryz.prog W = .ok (.int .u8 ((UInt8.ofNat n.toNat).toNat : Int)) W := by
  rw [run_convert_int W 3 5 .i64 n (by rw [Tryz.underlying3]; rfl) Tryz.underlying5]
  have hk : Tryz.prog.intKind 5 = .u8 := by kernel_rfl
  have e : ((UInt8.ofNat n.toNat).toNat : Int) = n := by rw [UInt8.toNat_ofNat']; omega
  have : (Tryz.prog.intKind 5).wrap n = n := by
    rw [hk]
    show n % 256 = n
    omega
  rw [this, hk, e]
theorem conv_two (c d : UInt8) (w : World) : (convert 63 9 (.slice (some ⟨w.heap.size, 0, none⟩) 2 2)).run Tryz.prog (w.alloc (.cells #[.int .u8 (c.toNat : Int), .int .u8 (d.toNat : Int)] 5)) = .ok (.string ⟨#[c, d]⟩) (w.alloc (.cells #[.int .u8 (c.toNat : Int), .int .u8 (d.toNat : Int)] 5)) := by
  have h := World.ownsRow_lit (base := w.heap.size) (e := 5) (size := 1) w #[.int .u8 (c.toNat : Int), .int .u8 (d.toNat : Int)] 2 (Nat.le_refl _) (by unfold maxLen; omega) rfl
  exact conv_row _ _ 2 _ [c, d] 2 rfl h
theorem cat_is (a b c : ByteArray) (ha : a.size ≤ 2000000) (hb : b.size ≤ 2000000) (e : a ++ b = c) (W : World) : (Op.stringOp .add a b).run Tryz.prog W = .ok (.string c) W := by
  subst e
  rw [run_string_add_sum W _ _ (by show a.size + b.size ≤ _; omega)]
/-- A number's one byte. -/
theorem one_byte (t : Int) : ∃ (a : ByteArray) (k : Bool), (k = true ↔ 0 ≤ t ∧ t ≤ 255) ∧ (k = true → a = ⟨#[UInt8.ofNat t.toNat]⟩) ∧
    ∀ V, Calls Tryz.prog 32 #[.int .i64 t, .int .i64 1] V fun e w' => e = .returned (.tuple #[.string a, .bool k]) ∧ Below V.heap.size V w' := by
  refine ⟨⟨(layN t 1).toArray⟩, fitsB t (1 : Nat), ?_, ?_, fun V => oput_any t 1 1 rfl (by omega) (by omega) V⟩
  · rw [fitsB_iff]
    show 1 ≤ ((1 : Nat) : Int) ∧ ((1 : Nat) : Int) ≤ 7 ∧ 0 ≤ t ∧ t < ((256 ^ 1 : Nat) : Int) ↔ _
    omega
  · intro h
    unfold layN
    rw [if_pos h]
    show (⟨#[UInt8.ofNat (t.toNat / 256 ^ 0)]⟩ : ByteArray) = _
    rw [Nat.pow_zero, Nat.div_one]
/-- The answer of Put. -/
def PutIs (t : Int) (d : ByteArray) (w : World) (e : Ending) (w' : World) : Prop := e = .returned (.tuple #[.string (putO t d), .bool (putB t d)]) ∧ Below w.heap.size w w'
theorem PutIs.no {t : Int} {d : ByteArray} {w w' : World} (h : putB t d = false) (hb : Below w.heap.size w w') : PutIs t d w (.returned (.tuple #[.string ⟨#[]⟩, .bool false])) w' := by
  have : putO t d = ⟨#[]⟩ := by unfold putO; rw [h]; rfl
  exact ⟨by rw [this, h], hb⟩
theorem PutIs.yes {t : Int} {d z : ByteArray} {w w' : World} (h : putB t d = true) (hz : z = putO t d) (hb : Below w.heap.size w w') : PutIs t d w (.returned (.tuple #[.string z, .bool true])) w' := ⟨by rw [hz, h], hb⟩
theorem put_cat {t : Int} {d : ByteArray} (h : putB t d = true) : ((⟨#[UInt8.ofNat t.toNat]⟩ : ByteArray) ++ ⟨#[UInt8.ofNat d.size]⟩) ++ d = putO t d := by
  unfold putO
  rw [if_pos h]
  exact ByteArray.ext (by simp [ByteArray.data_append])
theorem put_cat2 {t : Int} {d : ByteArray} (h : putB t d = true) : (⟨#[UInt8.ofNat t.toNat, UInt8.ofNat d.size]⟩ : ByteArray) ++ d = putO t d := by
  unfold putO
  rw [if_pos h]
  exact ByteArray.ext (by simp [ByteArray.data_append])
set_option maxHeartbeats 1600000 in
theorem put_any (t : Int) (d : ByteArray) (w : World) (hs : d.size ≤ 1048576) : Calls Tryz.prog 108 #[.int .i64 t, .string d] w (PutIs t d w) := by
  obtain ⟨a, k1, ka, ea, n1⟩ := one_byte t
  obtain ⟨b, k2, kb, eb, n2⟩ := one_byte (d.size : Int)
  have P1 := Lib.hid n1
  have P2 := Lib.hid n2
  have hds : (d.size : Int) ≤ 1048576 := by omega
  clear n1 n2
  by_cases h0 : t = 0
  · have HF := Lib.hid (show putB t d = false by unfold putB; simp [h0])
    subst h0
    clear hs ka ea kb eb
    go_enter Tryz.func108, Tryz.ntmps108
    go_wp2_with fail
    refine (P1.out _).mono ?_
    rintro e w1 ⟨rfl, hb⟩
    have HB := Lib.hid hb
    clear hb P1
    go_wp2_with fail
    refine (P2.out _).mono ?_
    rintro e w2 ⟨rfl, hb⟩
    have HB := Lib.hid (bcall HB.out hb)
    clear hb P2
    go_wp2
    go_ret2
    exact PutIs.no HF.out HB.out
  cases k1 with
  | false =>
    have HF : Hid (putB t d = false) := Lib.hid (by
      have h1 : ¬ (0 ≤ t ∧ t ≤ 255) := fun h => by simpa using ka.2 h
      unfold putB
      simp only [Bool.and_eq_false_iff, decide_eq_false_iff_not]
      left
      omega)
    clear hs ka ea kb eb
    go_enter Tryz.func108, Tryz.ntmps108
    go_wp2_with fail
    refine (P1.out _).mono ?_
    rintro e w1 ⟨rfl, hb⟩
    have HB := Lib.hid hb
    clear hb P1
    go_wp2_with fail
    refine (P2.out _).mono ?_
    rintro e w2 ⟨rfl, hb⟩
    have HB := Lib.hid (bcall HB.out hb)
    clear hb P2
    go_wp2
    go_ret2
    exact PutIs.no HF.out HB.out
  | true =>
  cases k2 with
  | false =>
    have HF : Hid (putB t d = false) := Lib.hid (by
      have h1 : ¬ (0 ≤ (d.size : Int) ∧ (d.size : Int) ≤ 255) := fun h => by simpa using kb.2 h
      unfold putB
      simp only [Bool.and_eq_false_iff, decide_eq_false_iff_not]
      right
      omega)
    clear hs ka ea kb eb
    go_enter Tryz.func108, Tryz.ntmps108
    go_wp2_with fail
    refine (P1.out _).mono ?_
    rintro e w1 ⟨rfl, hb⟩
    have HB := Lib.hid hb
    clear hb P1
    go_wp2_with fail
    refine (P2.out _).mono ?_
    rintro e w2 ⟨rfl, hb⟩
    have HB := Lib.hid (bcall HB.out hb)
    clear hb P2
    go_wp2
    go_ret2
    exact PutIs.no HF.out HB.out
  | true =>
  have g1 := ka.1 rfl
  have g2 := (kb.1 rfl).2
  have HF : Hid (putB t d = true) := Lib.hid (by
    unfold putB
    simp
    omega)
  have ha : a.size = 1 := by rw [ea rfl]; rfl
  have hb1 : b.size = 1 := by rw [eb rfl]; rfl
  have HZ : Hid ((a ++ b) ++ d = putO t d) := Lib.hid (by
    rw [← put_cat HF.out, ea rfl, eb rfl, Int.toNat_natCast])
  have c2 := cat_is _ d _ (by rw [ByteArray.size_append]; omega) (by omega) HZ.out
  have c1 := cat_is a b _ (by omega) (by omega) rfl
  have hab : (a ++ b).size = 2 := by rw [ByteArray.size_append]; omega
  have HZ2 : Hid (∃ z, putO t d = z) := Lib.hid ⟨_, rfl⟩
  clear hs ka ea kb eb
  generalize a ++ b = ab at *
  obtain ⟨z, hz⟩ := HZ2.out
  rw [hz] at c2
  clear HZ HZ2
  have HZ := Lib.hid hz.symm
  clear hz
  go_enter Tryz.func108, Tryz.ntmps108
  go_wp2_with fail
  refine (P1.out _).mono ?_
  rintro e w1 ⟨rfl, hb⟩
  have HB := Lib.hid hb
  clear hb P1
  go_wp2_with fail
  refine (P2.out _).mono ?_
  rintro e w2 ⟨rfl, hb⟩
  have HB := Lib.hid (bcall HB.out hb)
  clear hb P2
  go_wp2
  go_ret2
  exact PutIs.yes HF.out HZ.out HB.out
set_option maxHeartbeats 1600000 in
/-- The document's Put. -/
theorem rput_any (t : Int) (d : ByteArray) (w : World) (hs : d.size ≤ 1048576) : Calls Tryz.prog 64 #[.int .i64 t, .string d] w (PutIs t d w) := by
  have hds : (d.size : Int) ≤ 1048576 := by omega
  by_cases h1 : 1 ≤ t
  rotate_left
  · have HF : Hid (putB t d = false) := Lib.hid (by unfold putB; simp; omega)
    clear hs
    go_enter Tryz.func64, Tryz.ntmps64
    go_wp2
    go_ret2
    exact PutIs.no HF.out (Below.refl _ _)
  by_cases h2 : t ≤ 255
  rotate_left
  · have HF : Hid (putB t d = false) := Lib.hid (by unfold putB; simp; omega)
    clear hs
    go_enter Tryz.func64, Tryz.ntmps64
    go_wp2
    go_ret2
    exact PutIs.no HF.out (Below.refl _ _)
  by_cases h3 : d.size ≤ 255
  rotate_left
  · have HF : Hid (putB t d = false) := Lib.hid (by unfold putB; simp; omega)
    have h3 : (255 : Int) < d.size := by omega
    clear hs
    go_enter Tryz.func64, Tryz.ntmps64
    go_wp2
    go_ret2
    exact PutIs.no HF.out (Below.refl _ _)
  have HF : Hid (putB t d = true) := Lib.hid (by unfold putB; simp; omega)
  have h3 : (d.size : Int) ≤ 255 := by omega
  have v0 := to8 t (by omega) h2
  have v1 := to8 (d.size : Int) (by omega) (by omega)
  have c2 := cat_is _ d _ (by show 2 ≤ 2000000; omega) (by omega) (put_cat2 HF.out)
  rw [Int.toNat_natCast] at v1
  clear hs
  generalize UInt8.ofNat t.toNat = ca at *
  generalize UInt8.ofNat d.size = cd at *
  have cv := conv_two ca cd
  have ha : (⟨#[ca, cd]⟩ : ByteArray).size = 2 := rfl
  generalize (⟨#[ca, cd]⟩ : ByteArray) = ab at *
  generalize hz : putO t d = z at *
  have HZ := Lib.hid hz.symm
  clear hz
  go_enter Tryz.func64, Tryz.ntmps64
  go_wp2
  go_ret2
  exact PutIs.yes HF.out HZ.out (balloc (Below.refl _ w) _)
/-- The answer of Wrap. -/
def WrapIs (s : ByteArray) (w : World) (e : Ending) (w' : World) : Prop := e = .returned (.tuple #[.string (wrap s), .bool (decide (s.size ≤ 65531))]) ∧ Below w.heap.size w w'
theorem WrapIs.no {s : ByteArray} {w w' : World} (h : ¬ s.size ≤ 65531) (hb : Below w.heap.size w w') : WrapIs s w (.returned (.tuple #[.string ⟨#[]⟩, .bool false])) w' := by
  have : wrap s = ⟨#[]⟩ := by unfold wrap; rw [if_neg h]
  exact ⟨by rw [this, decide_eq_false h], hb⟩
theorem WrapIs.yes {s z : ByteArray} {w w' : World} (h : s.size ≤ 65531) (hz : z = wrap s) (hb : Below w.heap.size w w') : WrapIs s w (.returned (.tuple #[.string z, .bool true])) w' := ⟨by rw [hz, decide_eq_true h], hb⟩
theorem wrap_cat {s : ByteArray} (h : s.size ≤ 65531) : ((⟨#[42, 2]⟩ : ByteArray) ++ ⟨(layN (s.size : Int) 2).toArray⟩) ++ s = wrap s := by
  unfold wrap wrapL
  rw [if_pos h]
  exact ByteArray.ext (by simp [ByteArray.data_append])
set_option maxHeartbeats 1600000 in
theorem wrap_any (s : ByteArray) (w : World) (hs : s.size ≤ 1048576) : Calls Tryz.prog 16 #[.string s] w (WrapIs s w) := by
  by_cases h : s.size ≤ 65531
  rotate_left
  · have hb : (65531 : Int) < s.size := by omega
    have hb2 : (s.size : Int) ≤ 1048576 := by omega
    have HF := Lib.hid h
    clear h hs
    go_enter Tryz.func16, Tryz.ntmps16
    go_wp2
    go_ret2
    exact WrapIs.no HF.out (Below.refl _ _)
  have HF := Lib.hid h
  have P2 := Lib.hid (fun V => oput_any (s.size : Int) 2 2 rfl (by omega) (by omega) V)
  have hb : (s.size : Int) ≤ 65531 := by omega
  have hz2 : (⟨(layN (s.size : Int) 2).toArray⟩ : ByteArray).size ≤ 2 := by
    show (layN (s.size : Int) 2).toArray.size ≤ 2
    rw [List.size_toArray]
    exact layN_len _ _
  have c2 := cat_is _ s _ (by rw [ByteArray.size_append]; show 2 + _ ≤ 2000000; omega) (by omega) (wrap_cat h)
  have c1 := cat_is (⟨#[42, 2]⟩ : ByteArray) ⟨(layN (s.size : Int) 2).toArray⟩ _ (by show 2 ≤ 2000000; omega) (by omega) rfl
  have cv : ∀ W : World, (convert 63 9 (.slice (some ⟨W.heap.size, 0, none⟩) 2 2)).run Tryz.prog (W.alloc (.cells #[.int .u8 42, .int .u8 2] 5)) = .ok (.string ⟨#[42, 2]⟩) (W.alloc (.cells #[.int .u8 42, .int .u8 2] 5)) := fun W => conv_two 42 2 W
  clear h hs
  generalize ((⟨#[42, 2]⟩ : ByteArray) ++ ⟨(layN (s.size : Int) 2).toArray⟩) = ab at *
  generalize (⟨(layN (s.size : Int) 2).toArray⟩ : ByteArray) = b at *
  generalize fitsB (s.size : Int) 2 = k at *
  generalize hz : wrap s = z at *
  have HZ := Lib.hid hz.symm
  clear hz
  go_enter Tryz.func16, Tryz.ntmps16
  go_wp2_with fail
  refine (P2.out _).mono ?_
  rintro e w2 ⟨rfl, hb⟩
  have HB := Lib.hid hb
  clear hb P2
  go_wp2
  go_ret2
  exact WrapIs.yes HF.out HZ.out (balloc HB.out _)
set_option maxHeartbeats 1600000 in
/-- The document's Wrap. -/
theorem rwrap_any (s : ByteArray) (w : World) (hs : s.size ≤ 1048576) : Calls Tryz.prog 19 #[.string s] w (WrapIs s w) := by
  by_cases h : s.size ≤ 65531
  rotate_left
  · have hb : (65531 : Int) < s.size := by omega
    have hb2 : (s.size : Int) ≤ 1048576 := by omega
    have HF := Lib.hid h
    clear h hs
    go_enter Tryz.func19, Tryz.ntmps19
    go_wp2
    go_ret2
    exact WrapIs.no HF.out (Below.refl _ _)
  have HF := Lib.hid h
  have P2 := Lib.hid (fun V => of_any (s.size : Int) 2 2 rfl (by omega) (by omega) V)
  have hb : (s.size : Int) ≤ 65531 := by omega
  have hz2 : (⟨(layN (s.size : Int) 2).toArray⟩ : ByteArray).size ≤ 2 := by
    show (layN (s.size : Int) 2).toArray.size ≤ 2
    rw [List.size_toArray]
    exact layN_len _ _
  have c2 := cat_is _ s _ (by rw [ByteArray.size_append]; show 2 + _ ≤ 2000000; omega) (by omega) (wrap_cat h)
  have c1 := cat_is (⟨#[42, 2]⟩ : ByteArray) ⟨(layN (s.size : Int) 2).toArray⟩ _ (by show 2 ≤ 2000000; omega) (by omega) rfl
  clear h hs
  generalize ((⟨#[42, 2]⟩ : ByteArray) ++ ⟨(layN (s.size : Int) 2).toArray⟩) = ab at *
  generalize (⟨(layN (s.size : Int) 2).toArray⟩ : ByteArray) = b at *
  generalize hz : wrap s = z at *
  have HZ := Lib.hid hz.symm
  clear hz
  go_enter Tryz.func19, Tryz.ntmps19
  go_wp2_with fail
  refine (P2.out _).mono ?_
  rintro e w2 ⟨rfl, hb⟩
  have HB := Lib.hid hb
  clear hb P2
  go_wp2
  go_ret2
  exact WrapIs.yes HF.out HZ.out HB.out
end Go.Proofs.YtjhfpobjbijcpaaGreatDoor.F6
