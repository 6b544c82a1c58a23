/-
  addr's number, put and write: numbers of bytes, bytes of numbers, an address's text. Conditions: the bytes of an address; the tables hold what the program lays.
-/
import Derived.Test.YtjppfalckfmalaaDoorFmt
import Derived.Deep.DeepCutAuto
namespace Go.Proofs.YtjppfalckfmalaaDoor.Wr
open Go.ChangeShapes Go.WideShapes Go.ChangeAt Go.RowKit
open Go.Proofs.YtjppfalckfmalaaDoor.Sb
open Go.Proofs.YtjppfalckfmalaaDoor.Ad
open Go.Proofs.YtjppfalckfmalaaDoor.Tab
open Go.Proofs.YtjppfalckfmalaaDoor.Fmt
set_option linter.unusedVariables false

theorem be_take_succ (l : List UInt8) (k : Nat) (h : k < l.length) : be (l.take (k + 1)) = be (l.take k) * 256 + l[k].toNat := by
  rw [List.take_succ_eq_append_getElem h, be_snoc]
theorem be_take_lt (l : List UInt8) (k : Nat) (h : k ≤ 2) : be (l.take k) < 65536 := by
  have := be_lt (l.take k)
  have hl : (l.take k).length ≤ 2 := by simp; omega
  exact Nat.lt_of_lt_of_le this (Nat.pow_le_pow_right (by decide) hl)

theorem or8 (a : Nat) (c : UInt8) : a * 256 ||| c.toNat = a * 256 + c.toNat := by
  have := Nat.two_pow_add_eq_or_of_lt (b := c.toNat) (i := 8) c.toNat_lt a
  rw [Nat.mul_comm] at this
  exact this.symm

set_option maxHeartbeats 1000000 in
theorem number_any (s : ByteArray) (h : s.size ≤ 2) (w : World) :
    Calls Tryd.prog 34 #[.string s] w fun e w' => e = .returned (.int .u64 (be s.data.toList)) ∧ w' = w := by
  have hsl : s.data.toList.length = s.size := by simp
  have HSL := Lib.hid hsl
  clear hsl
  go_enter Tryd.func34, Tryd.ntmps34
  go_wp2
  go_loop [3, 7] (fun n i => ∃ k : Nat, k ≤ s.size ∧ i = .int .i64 k ∧ n = .int .u64 (be (s.data.toList.take k))) (fun _ i => s.size - (intOf i).toNat)
  case atStart => exact ⟨0, Nat.zero_le _, rfl, rfl⟩
  case round =>
    obtain ⟨k, hk, rfl, rfl⟩ := hrel
    by_cases hlt : k < s.size
    · have hb := be_take_lt s.data.toList k (by omega)
      have HS := Lib.hid (be_take_succ s.data.toList k (by have := HSL.out; omega))
      have hc : s[k].toNat < 256 := s[k].toNat_lt
      have e : bits .or .u64 ((be (s.data.toList.take k) : Int) * 256) (s[k].toNat : Int) = ((be (s.data.toList.take k) * 256 + s[k].toNat : Nat) : Int) := by
        have := bits_or_u64_nat (be (s.data.toList.take k) * 256) s[k].toNat (by omega) (by omega)
        rw [or8] at this
        exact this
      go_wp2
      go_round
      case rel => exact ⟨k + 1, by omega, by go_num, by rw [HS.out]; rfl⟩
      case measure => simp [intOf]; omega
    · go_wp2
      go_ret
      have : s.data.toList.take k = s.data.toList := List.take_of_length_le (by have := HSL.out; omega)
      exact ⟨by rw [this]; rfl, rfl⟩

theorem byte_of (B b : Nat) (l : List UInt8) (x : Int) (c : UInt8) (hx : x = (c.toNat : Int)) (w : World) (h : Bld B b l w) (hlen : l.length + 1 ≤ 140737488355328) (hBw : B ≤ w.heap.size) :
    Calls Tryd.prog 44 #[.pointer (some ⟨b, 0, none⟩), .int .u8 x] w fun e w' => e = .returned .nilIface ∧ Bld B b (l ++ [c]) w' ∧ Below B w w' := by
  subst hx
  exact byte_any B b l c w h hlen hBw

set_option maxHeartbeats 1000000 in
theorem put1_any (B b : Nat) (l : List UInt8) (n : Nat) (hn : n < 256) (w : World) (h : Bld B b l w) (hlen : l.length ≤ 1000) (hBw : B ≤ w.heap.size) :
    Calls Tryd.prog 38 #[.pointer (some ⟨b, 0, none⟩), .int .u64 n, .int .i64 1] w fun e w' => e = .returned (.tuple #[]) ∧ Bld B b (l ++ putB 1 n) w' ∧ Below B w w' := by
  have H := Lib.hid h
  clear h
  have HB0 := Lib.hid (Below.refl B w)
  go_enter Tryd.func38, Tryd.ntmps38
  go_wp2
  go_loopw [6] (fun i wr => (i = .int .i64 0 ∧ Hid (Bld B b l wr) ∧ Hid (Below B w wr)) ∨ (i = .int .i64 (-1) ∧ Hid (Bld B b (l ++ putB 1 n) wr) ∧ Hid (Below B w wr))) (fun i _ => (intOf i + 1).toNat)
  case atStart => exact .inl ⟨rfl, H, HB0⟩
  case round =>
    rcases hrel with ⟨rfl, HL, HB⟩ | ⟨rfl, HL, HB⟩
    · go_wp2_with (go_at_call 44; refine (byte_of B b l _ (UInt8.ofNat n) ?_ _ HL.out (by omega) (by have := HB.out.size; omega)).mono ?_)
      · simp; omega
      rintro e w1 ⟨rfl, h1, hb1⟩
      go_wp2
      go_roundw
      case rel => exact .inr ⟨rfl, Lib.hid h1, Lib.hid (HB.out.trans hb1)⟩
      case measure => simp [intOf]
    · go_wp2
      go_end0
      exact ⟨rfl, HL.out, HB.out⟩

set_option maxHeartbeats 1000000 in
theorem put2_any (B b : Nat) (l : List UInt8) (n : Nat) (hn : n < 65536) (w : World) (h : Bld B b l w) (hlen : l.length ≤ 1000) (hBw : B ≤ w.heap.size) :
    Calls Tryd.prog 38 #[.pointer (some ⟨b, 0, none⟩), .int .u64 n, .int .i64 2] w fun e w' => e = .returned (.tuple #[]) ∧ Bld B b (l ++ putB 2 n) w' ∧ Below B w w' := by
  have H := Lib.hid h
  clear h
  have HB0 := Lib.hid (Below.refl B w)
  go_enter Tryd.func38, Tryd.ntmps38
  go_wp2
  go_loopw [6] (fun i wr => (i = .int .i64 1 ∧ Hid (Bld B b l wr) ∧ Hid (Below B w wr)) ∨ (i = .int .i64 0 ∧ Hid (Bld B b (l ++ [UInt8.ofNat (n / 256)]) wr) ∧ Hid (Below B w wr)) ∨ (i = .int .i64 (-1) ∧ Hid (Bld B b (l ++ putB 2 n) wr) ∧ Hid (Below B w wr))) (fun i _ => (intOf i + 1).toNat)
  case atStart => exact .inl ⟨rfl, H, HB0⟩
  case round =>
    rcases hrel with ⟨rfl, HL, HB⟩ | ⟨rfl, HL, HB⟩ | ⟨rfl, HL, HB⟩
    · go_wp2_with (go_at_call 44; refine (byte_of B b l _ (UInt8.ofNat (n / 256)) ?_ _ HL.out (by omega) (by have := HB.out.size; omega)).mono ?_)
      · simp; omega
      rintro e w1 ⟨rfl, h1, hb1⟩
      go_wp2
      go_roundw
      case rel => exact .inr (.inl ⟨rfl, Lib.hid h1, Lib.hid (HB.out.trans hb1)⟩)
      case measure => simp [intOf]
    · go_wp2_with (go_at_call 44; refine (byte_of B b _ _ (UInt8.ofNat n) ?_ _ HL.out (by simp; omega) (by have := HB.out.size; omega)).mono ?_)
      · simp
      rintro e w1 ⟨rfl, h1, hb1⟩
      go_wp2
      go_roundw
      case rel =>
        have e2 : (l ++ [UInt8.ofNat (n / 256)]) ++ [UInt8.ofNat n] = l ++ putB 2 n := by simp [putB]
        rw [e2] at h1
        exact .inr (.inr ⟨rfl, Lib.hid h1, Lib.hid (HB.out.trans hb1)⟩)
      case measure => simp [intOf]
    · go_wp2
      go_end0
      exact ⟨rfl, HL.out, HB.out⟩

/-- The two styles: the sign, the base, the bytes of a number, and how many there are. -/
def Style (sg : UInt8) (b z n : Nat) : Prop := (sg = 46 ∧ b = 10 ∧ z = 1 ∧ n = 4) ∨ (sg = 58 ∧ b = 16 ∧ z = 2 ∧ n = 8)

theorem slice_word (a : ByteArray) (z k : Nat) (h : k * z + z ≤ a.size) : be (a.extract (k * z) (k * z + z)).data.toList = word z a.data.toList k := by
  unfold word
  congr 1
  simp

/-! GEN -/
theorem number_word (a : ByteArray) (z k lo hi : Nat) (hlo : lo = k * z) (hhi : hi = k * z + z) (h : k * z + z ≤ a.size) (hz : z ≤ 2) (w : World) :
    Calls Tryd.prog 34 #[.string (a.extract lo hi)] w fun e w' => e = .returned (.int .u64 (word z a.data.toList k : Nat)) ∧ w' = w := by
  subst hlo hhi
  have := number_any (a.extract (k * z) (k * z + z)) (by simp; omega) w
  rw [slice_word a z k h] at this
  exact this

theorem slice_run (a : ByteArray) (lo hi : Nat) (h1 : lo ≤ hi) (h2 : hi ≤ a.size) (x : Int) (hx : x = (hi : Int)) (W : World) :
    (Instr.slice 9 (.string a) (some (.int .i64 (lo : Int))) (some (.int .i64 x)) none).run Tryd.prog W = .ok (.string (a.extract lo hi)) W := by
  subst hx

  simp [Instr.slice, run_underlying Tryd.underlying9, Instr.sliceBounds, run_sliceBound, h1, h2]

theorem strL_any (B b : Nat) (l x : List UInt8) (w : World) (h : Bld B b l w) (hlen : l.length + x.length ≤ 140737488355328) (hBw : B ≤ w.heap.size) :
    Calls Tryd.prog 32 #[.pointer (some ⟨b, 0, none⟩), .string ⟨x.toArray⟩] w fun e w' => (∃ n, e = .returned (.tuple #[.int .i64 n, .nilIface])) ∧ Bld B b (l ++ x) w' ∧ Below B w w' := by
  refine (str_any B b l ⟨x.toArray⟩ w h (by simp [ByteArray.size]; omega) hBw).mono ?_
  rintro e w' ⟨rfl, h1, h2⟩
  exact ⟨⟨_, rfl⟩, by simpa using h1, h2⟩

/-- The text ahead of number k, its sign with it. -/
def ahead (c : UInt8) (b z k : Nat) (a : List UInt8) : List UInt8 := if k = 0 then [] else txt c b z k a ++ [c]
theorem txt_ahead (c : UInt8) (b z k : Nat) (a : List UInt8) : txt c b z (k + 1) a = ahead c b z k a ++ num b (word z a k) := by
  unfold ahead
  by_cases h : k = 0
  · subst h; rw [if_pos rfl, txt_one]; rfl
  · rw [if_neg h, txt_succ c b z k a h]; simp
theorem txt_len (c : UInt8) (b z : Nat) (hb : 2 ≤ b) (hz : 256 ^ z ≤ b ^ 5) (a : List UInt8) : ∀ k, (txt c b z k a).length ≤ 6 * k
  | 0 => by rw [txt_zero]; simp
  | k + 1 => by
    have h1 := txt_len c b z hb hz a k
    have h2 := num_len b hb 4 (word z a k) (Nat.lt_of_lt_of_le (word_lt z a k) hz)
    rw [txt_ahead]
    unfold ahead
    split <;> simp <;> omega
theorem ahead_len (c : UInt8) (b z k : Nat) (hb : 2 ≤ b) (hz : 256 ^ z ≤ b ^ 5) (a : List UInt8) : (ahead c b z k a).length ≤ 6 * k + 1 := by
  have := txt_len c b z hb hz a k
  unfold ahead
  split <;> simp; omega

set_option maxHeartbeats 4000000 in
set_option maxRecDepth 100000 in
theorem write4 (a : ByteArray) (h : a.size = 4) (w : World) (ht : Tabs w) :
    Calls Tryd.prog 26 #[.agg #[.string ⟨#[46]⟩, .int .i64 4, .int .i64 1, .int .i64 10], .string a] w fun e w' => e = .returned (.string ⟨(txt 46 10 1 4 a.data.toList).toArray⟩) ∧ Below w.heap.size w w' := by
  have HT := Lib.hid ht
  have HZ := Lib.hid h
  clear ht
  go_enter Tryd.func26, Tryd.ntmps26
  go_wp2
  obtain ⟨W1, hW1⟩ : ∃ W1, W1 = (w.alloc (.cells #[.string ⟨#[46]⟩, .int .i64 4, .int .i64 1, .int .i64 10] 30)).alloc (.cells #[.pointer none, .slice none 0 0] 40) := ⟨_, rfl⟩
  have hS1 : W1.heap.size = w.heap.size + 2 := by rw [hW1]; simp
  have hA1 : Hid (Below w.heap.size w W1) := Lib.hid (by rw [hW1]; exact ((Below.refl _ _).alloc (Nat.le_refl _) _).alloc (by simp) _)
  have hC1 : ∀ j v, (#[.string ⟨#[46]⟩, .int .i64 4, .int .i64 1, .int .i64 10] : Array Value)[j]? = some v → W1.cell? ⟨w.heap.size, j, none⟩ = some v := fun j v hj => by
    rw [hW1, World.cell?_alloc_old _ _ _ (by simp), World.cell?_alloc_new]; exact hj
  have hD1 : Hid (Bld (w.heap.size + 1) (w.heap.size + 1) [] W1) := Lib.hid (by
    have := bld_new (w.alloc (.cells #[.string ⟨#[46]⟩, .int .i64 4, .int .i64 1, .int .i64 10] 30))
    rw [hW1]; simpa using this)
  rw [← hW1]
  have HW1 := Lib.hid hS1
  have q0 := Lib.hid (hC1 0 _ rfl)
  have q2 := Lib.hid (hC1 2 _ rfl)
  have q3 := Lib.hid (hC1 3 _ rfl)
  clear hS1 hC1 hW1
  go_loopw [6] (fun i wr => ∃ (k m : Nat), Hid (m = k * 1) ∧ m ≤ 4 ∧ i = .int .i64 m ∧ Hid (Bld (w.heap.size + 1) (w.heap.size + 1) (txt 46 10 1 k a.data.toList) wr) ∧ Hid (Below (w.heap.size + 1) W1 wr)) (fun i _ => 4 - (intOf i).toNat)
  case atStart => exact ⟨0, 0, Lib.hid rfl, by omega, rfl, by rw [txt_zero]; exact hD1, Lib.hid (Below.refl _ _)⟩
  case round =>
    obtain ⟨k, m, HM, hm, rfl, HL, HB⟩ := hrel
    clear hD1
    have c0 : wr.cell? ⟨w.heap.size, 0, none⟩ = some (.string ⟨#[46]⟩) := by rw [HB.out.cell (by simp)]; exact q0.out
    by_cases hlt : m < 4
    · have HK : Hid (k < 4 ∧ k * 1 + 1 ≤ a.size) := Lib.hid (by have := HM.out; have := HZ.out; omega)
      have HLEN := Lib.hid (txt_len 46 10 1 (by decide) (by decide) a.data.toList k)
      have HLEA := Lib.hid (ahead_len 46 10 1 k (by decide) (by decide) a.data.toList)
      have HNUM := Lib.hid (num_len 10 (by decide) 4 (word 1 a.data.toList k) (Nat.lt_of_lt_of_le (word_lt 1 a.data.toList k) (by decide)))
      have sync : ∀ W, Bld (w.heap.size + 1) (w.heap.size + 1) (ahead 46 10 1 k a.data.toList) W → Below (w.heap.size + 1) W1 W → W.cell? ⟨w.heap.size, 2, none⟩ = some (.int .i64 1) ∧ W.cell? ⟨w.heap.size, 3, none⟩ = some (.int .i64 10) := fun W _ hb =>
        ⟨by rw [hb.cell (by simp)]; exact q2.out, by rw [hb.cell (by simp)]; exact q3.out⟩
      have SY := Lib.hid sync
      clear sync
      by_cases h0 : k = 0
      · have HA : Hid (Bld (w.heap.size + 1) (w.heap.size + 1) (ahead 46 10 1 k a.data.toList) wr) := Lib.hid (by
          have := HL.out
          rw [h0, txt_zero] at this
          rw [ahead, if_pos h0]; exact this)
        obtain rfl : m = 0 := by have := HM.out; rw [this, h0, Nat.zero_mul]
        clear HL h0
        go_upto_region 7 with (fail)
        obtain ⟨c2, c3⟩ := SY.out _ HA.out HB.out
        have e1 : IntKind.i64.wrap 1 = 1 := IntWalk.i64_in _ (by omega)
        have hz : 1 ≤ (a.size : Int) := by have := HZ.out; have := HM.out; omega
        clear h
        refine wp_region_still_tail 10 (by kernel_rfl) (by kernel_rfl) ?_
        simp only [List.take_succ_cons, List.take_zero, List.drop_succ_cons, List.drop_zero]
        repeat still_step
        still_call (number_word a 1 k _ _ (by have := HM.out; omega) (by have := HM.out; omega) HK.out.2 (by decide) _)
        repeat still_step
        refine wpStill_nil ?_
        change wpList _ _ _ _ _ wr.drew
        have HL2 : Hid (Bld (w.heap.size + 1) (w.heap.size + 1) (ahead 46 10 1 k a.data.toList) wr.drew) := HA
        have HB2 : Hid (Below (w.heap.size + 1) W1 wr.drew) := Lib.hid HB.out.drew
        clear HA HB c2 c3 SY
        generalize wr.drew = w2 at *
        clear e1 hz
        go_wp2_with (go_at_call 33; refine (fmt_any 10 1 _ (by unfold Base; decide) (word_lt _ _ _) _ (HT.out.below (hA1.out.trans (HB2.out.mono (by simp))))).mono ?_)
        rintro e w3 ⟨rfl, hb3⟩
        have HL3 := Lib.hid (bld_kept HL2.out hb3)
        have HB3 := Lib.hid (HB2.out.trans (hb3.mono (by have := HB2.out.size; have := HW1.out; omega)))
        clear HL2 HB2 hb3
        go_wp2_with (go_at_call 32; refine (strL_any _ _ _ _ _ HL3.out (by have := HLEA.out; have := HNUM.out; have := HK.out.1; omega) (by have := HB3.out.size; have := HW1.out; omega)).mono ?_)
        rintro e w4 ⟨⟨n4, rfl⟩, h4, hb4⟩
        rw [← txt_ahead] at h4
        have HL4 := Lib.hid h4
        have HB4 := Lib.hid (HB3.out.trans hb4)
        have c2 : w4.cell? ⟨w.heap.size, 2, none⟩ = some (.int .i64 1) := by rw [HB4.out.cell (by simp)]; exact q2.out
        clear HL3 HB3 h4 hb4
        go_wp2
        go_roundw
        case rel => exact ⟨k + 1, 1, Lib.hid (by have := HM.out; omega), by have := HM.out; omega, by rfl, HL4, HB4⟩
        case measure => simp [intOf]

      · have hm0 : 0 < m := by have := HM.out; omega
        clear h0
        go_wp2_with (go_at_call 32; refine (strL_any _ _ _ [46] _ HL.out (by simp; have := HLEN.out; have := HK.out.1; omega) (by have := HB.out.size; have := HW1.out; omega)).mono ?_)
        rintro e w1 ⟨⟨n1, rfl⟩, h1, hb1⟩
        have HA : Hid (Bld (w.heap.size + 1) (w.heap.size + 1) (ahead 46 10 1 k a.data.toList) w1) := Lib.hid (by
          rw [ahead, if_neg (by have := HM.out; intro h; rw [h, Nat.zero_mul] at this; omega)]; exact h1)
        replace HB := Lib.hid (HB.out.trans hb1)
        clear HL h1 hb1 c0
        generalize w1 = wr at *
        go_upto_region 7 with (fail)
        obtain ⟨c2, c3⟩ := SY.out _ HA.out HB.out
        have e1 : IntKind.i64.wrap ((m : Int) + 1) = ((m : Int) + 1) := IntWalk.i64_in _ (by omega)
        have hz : ((m : Int) + 1) ≤ (a.size : Int) := by have := HZ.out; have := HM.out; omega
        clear h
        have hsl := slice_run a m (m + 1) (by omega) (by have := HZ.out; have := HM.out; omega) ((m : Int) + 1) (by omega)
        refine wp_region_still_tail 10 (by kernel_rfl) (by kernel_rfl) ?_
        simp only [List.take_succ_cons, List.take_zero, List.drop_succ_cons, List.drop_zero]
        repeat still_step
        still_call (number_word a 1 k _ _ (by have := HM.out; omega) (by have := HM.out; omega) HK.out.2 (by decide) _)
        repeat still_step
        refine wpStill_nil ?_
        change wpList _ _ _ _ _ wr.drew
        have HL2 : Hid (Bld (w.heap.size + 1) (w.heap.size + 1) (ahead 46 10 1 k a.data.toList) wr.drew) := HA
        have HB2 : Hid (Below (w.heap.size + 1) W1 wr.drew) := Lib.hid HB.out.drew
        clear HA HB c2 c3 SY
        generalize wr.drew = w2 at *
        clear e1 hz
        go_wp2_with (go_at_call 33; refine (fmt_any 10 1 _ (by unfold Base; decide) (word_lt _ _ _) _ (HT.out.below (hA1.out.trans (HB2.out.mono (by simp))))).mono ?_)
        rintro e w3 ⟨rfl, hb3⟩
        have HL3 := Lib.hid (bld_kept HL2.out hb3)
        have HB3 := Lib.hid (HB2.out.trans (hb3.mono (by have := HB2.out.size; have := HW1.out; omega)))
        clear HL2 HB2 hb3
        go_wp2_with (go_at_call 32; refine (strL_any _ _ _ _ _ HL3.out (by have := HLEA.out; have := HNUM.out; have := HK.out.1; omega) (by have := HB3.out.size; have := HW1.out; omega)).mono ?_)
        rintro e w4 ⟨⟨n4, rfl⟩, h4, hb4⟩
        rw [← txt_ahead] at h4
        have HL4 := Lib.hid h4
        have HB4 := Lib.hid (HB3.out.trans hb4)
        have c2 : w4.cell? ⟨w.heap.size, 2, none⟩ = some (.int .i64 1) := by rw [HB4.out.cell (by simp)]; exact q2.out
        clear HL3 HB3 h4 hb4
        go_wp2
        go_roundw
        case rel => exact ⟨k + 1, m + 1, Lib.hid (by have := HM.out; omega), by have := HM.out; omega, by go_num, HL4, HB4⟩
        case measure => simp [intOf]; omega

    · have hmE : m = 4 := by omega
      have HKE : Hid (k = 4) := Lib.hid (by have := HM.out; omega)
      go_wp2_with (go_at_call 35; refine (text_any _ _ _ _ HL.out (by have := HB.out.size; have := HW1.out; omega)).mono ?_)
      rintro e w2 ⟨rfl, hb2⟩
      go_wp2
      go_ret
      rw [HKE.out]
      exact ⟨rfl, hA1.out.trans ((HB.out.trans hb2).mono (by simp))⟩

set_option maxHeartbeats 4000000 in
set_option maxRecDepth 100000 in
theorem write8 (a : ByteArray) (h : a.size = 16) (w : World) (ht : Tabs w) :
    Calls Tryd.prog 26 #[.agg #[.string ⟨#[58]⟩, .int .i64 8, .int .i64 2, .int .i64 16], .string a] w fun e w' => e = .returned (.string ⟨(txt 58 16 2 8 a.data.toList).toArray⟩) ∧ Below w.heap.size w w' := by
  have HT := Lib.hid ht
  have HZ := Lib.hid h
  clear ht
  go_enter Tryd.func26, Tryd.ntmps26
  go_wp2
  obtain ⟨W1, hW1⟩ : ∃ W1, W1 = (w.alloc (.cells #[.string ⟨#[58]⟩, .int .i64 8, .int .i64 2, .int .i64 16] 30)).alloc (.cells #[.pointer none, .slice none 0 0] 40) := ⟨_, rfl⟩
  have hS1 : W1.heap.size = w.heap.size + 2 := by rw [hW1]; simp
  have hA1 : Hid (Below w.heap.size w W1) := Lib.hid (by rw [hW1]; exact ((Below.refl _ _).alloc (Nat.le_refl _) _).alloc (by simp) _)
  have hC1 : ∀ j v, (#[.string ⟨#[58]⟩, .int .i64 8, .int .i64 2, .int .i64 16] : Array Value)[j]? = some v → W1.cell? ⟨w.heap.size, j, none⟩ = some v := fun j v hj => by
    rw [hW1, World.cell?_alloc_old _ _ _ (by simp), World.cell?_alloc_new]; exact hj
  have hD1 : Hid (Bld (w.heap.size + 1) (w.heap.size + 1) [] W1) := Lib.hid (by
    have := bld_new (w.alloc (.cells #[.string ⟨#[58]⟩, .int .i64 8, .int .i64 2, .int .i64 16] 30))
    rw [hW1]; simpa using this)
  rw [← hW1]
  have HW1 := Lib.hid hS1
  have q0 := Lib.hid (hC1 0 _ rfl)
  have q2 := Lib.hid (hC1 2 _ rfl)
  have q3 := Lib.hid (hC1 3 _ rfl)
  clear hS1 hC1 hW1
  go_loopw [6] (fun i wr => ∃ (k m : Nat), Hid (m = k * 2) ∧ m ≤ 16 ∧ i = .int .i64 m ∧ Hid (Bld (w.heap.size + 1) (w.heap.size + 1) (txt 58 16 2 k a.data.toList) wr) ∧ Hid (Below (w.heap.size + 1) W1 wr)) (fun i _ => 16 - (intOf i).toNat)
  case atStart => exact ⟨0, 0, Lib.hid rfl, by omega, rfl, by rw [txt_zero]; exact hD1, Lib.hid (Below.refl _ _)⟩
  case round =>
    obtain ⟨k, m, HM, hm, rfl, HL, HB⟩ := hrel
    clear hD1
    have c0 : wr.cell? ⟨w.heap.size, 0, none⟩ = some (.string ⟨#[58]⟩) := by rw [HB.out.cell (by simp)]; exact q0.out
    by_cases hlt : m < 16
    · have HK : Hid (k < 8 ∧ k * 2 + 2 ≤ a.size) := Lib.hid (by have := HM.out; have := HZ.out; omega)
      have HLEN := Lib.hid (txt_len 58 16 2 (by decide) (by decide) a.data.toList k)
      have HLEA := Lib.hid (ahead_len 58 16 2 k (by decide) (by decide) a.data.toList)
      have HNUM := Lib.hid (num_len 16 (by decide) 4 (word 2 a.data.toList k) (Nat.lt_of_lt_of_le (word_lt 2 a.data.toList k) (by decide)))
      have sync : ∀ W, Bld (w.heap.size + 1) (w.heap.size + 1) (ahead 58 16 2 k a.data.toList) W → Below (w.heap.size + 1) W1 W → W.cell? ⟨w.heap.size, 2, none⟩ = some (.int .i64 2) ∧ W.cell? ⟨w.heap.size, 3, none⟩ = some (.int .i64 16) := fun W _ hb =>
        ⟨by rw [hb.cell (by simp)]; exact q2.out, by rw [hb.cell (by simp)]; exact q3.out⟩
      have SY := Lib.hid sync
      clear sync
      by_cases h0 : k = 0
      · have HA : Hid (Bld (w.heap.size + 1) (w.heap.size + 1) (ahead 58 16 2 k a.data.toList) wr) := Lib.hid (by
          have := HL.out
          rw [h0, txt_zero] at this
          rw [ahead, if_pos h0]; exact this)
        obtain rfl : m = 0 := by have := HM.out; rw [this, h0, Nat.zero_mul]
        clear HL h0
        go_upto_region 7 with (fail)
        obtain ⟨c2, c3⟩ := SY.out _ HA.out HB.out
        have e1 : IntKind.i64.wrap 2 = 2 := IntWalk.i64_in _ (by omega)
        have hz : 2 ≤ (a.size : Int) := by have := HZ.out; have := HM.out; omega
        clear h
        refine wp_region_still_tail 10 (by kernel_rfl) (by kernel_rfl) ?_
        simp only [List.take_succ_cons, List.take_zero, List.drop_succ_cons, List.drop_zero]
        repeat still_step
        still_call (number_word a 2 k _ _ (by have := HM.out; omega) (by have := HM.out; omega) HK.out.2 (by decide) _)
        repeat still_step
        refine wpStill_nil ?_
        change wpList _ _ _ _ _ wr.drew
        have HL2 : Hid (Bld (w.heap.size + 1) (w.heap.size + 1) (ahead 58 16 2 k a.data.toList) wr.drew) := HA
        have HB2 : Hid (Below (w.heap.size + 1) W1 wr.drew) := Lib.hid HB.out.drew
        clear HA HB c2 c3 SY
        generalize wr.drew = w2 at *
        clear e1 hz
        go_wp2_with (go_at_call 33; refine (fmt_any 16 2 _ (by unfold Base; decide) (word_lt _ _ _) _ (HT.out.below (hA1.out.trans (HB2.out.mono (by simp))))).mono ?_)
        rintro e w3 ⟨rfl, hb3⟩
        have HL3 := Lib.hid (bld_kept HL2.out hb3)
        have HB3 := Lib.hid (HB2.out.trans (hb3.mono (by have := HB2.out.size; have := HW1.out; omega)))
        clear HL2 HB2 hb3
        go_wp2_with (go_at_call 32; refine (strL_any _ _ _ _ _ HL3.out (by have := HLEA.out; have := HNUM.out; have := HK.out.1; omega) (by have := HB3.out.size; have := HW1.out; omega)).mono ?_)
        rintro e w4 ⟨⟨n4, rfl⟩, h4, hb4⟩
        rw [← txt_ahead] at h4
        have HL4 := Lib.hid h4
        have HB4 := Lib.hid (HB3.out.trans hb4)
        have c2 : w4.cell? ⟨w.heap.size, 2, none⟩ = some (.int .i64 2) := by rw [HB4.out.cell (by simp)]; exact q2.out
        clear HL3 HB3 h4 hb4
        go_wp2
        go_roundw
        case rel => exact ⟨k + 1, 2, Lib.hid (by have := HM.out; omega), by have := HM.out; omega, by rfl, HL4, HB4⟩
        case measure => simp [intOf]

      · have hm0 : 0 < m := by have := HM.out; omega
        clear h0
        go_wp2_with (go_at_call 32; refine (strL_any _ _ _ [58] _ HL.out (by simp; have := HLEN.out; have := HK.out.1; omega) (by have := HB.out.size; have := HW1.out; omega)).mono ?_)
        rintro e w1 ⟨⟨n1, rfl⟩, h1, hb1⟩
        have HA : Hid (Bld (w.heap.size + 1) (w.heap.size + 1) (ahead 58 16 2 k a.data.toList) w1) := Lib.hid (by
          rw [ahead, if_neg (by have := HM.out; intro h; rw [h, Nat.zero_mul] at this; omega)]; exact h1)
        replace HB := Lib.hid (HB.out.trans hb1)
        clear HL h1 hb1 c0
        generalize w1 = wr at *
        go_upto_region 7 with (fail)
        obtain ⟨c2, c3⟩ := SY.out _ HA.out HB.out
        have e1 : IntKind.i64.wrap ((m : Int) + 2) = ((m : Int) + 2) := IntWalk.i64_in _ (by omega)
        have hz : ((m : Int) + 2) ≤ (a.size : Int) := by have := HZ.out; have := HM.out; omega
        clear h
        have hsl := slice_run a m (m + 2) (by omega) (by have := HZ.out; have := HM.out; omega) ((m : Int) + 2) (by omega)
        refine wp_region_still_tail 10 (by kernel_rfl) (by kernel_rfl) ?_
        simp only [List.take_succ_cons, List.take_zero, List.drop_succ_cons, List.drop_zero]
        repeat still_step
        still_call (number_word a 2 k _ _ (by have := HM.out; omega) (by have := HM.out; omega) HK.out.2 (by decide) _)
        repeat still_step
        refine wpStill_nil ?_
        change wpList _ _ _ _ _ wr.drew
        have HL2 : Hid (Bld (w.heap.size + 1) (w.heap.size + 1) (ahead 58 16 2 k a.data.toList) wr.drew) := HA
        have HB2 : Hid (Below (w.heap.size + 1) W1 wr.drew) := Lib.hid HB.out.drew
        clear HA HB c2 c3 SY
        generalize wr.drew = w2 at *
        clear e1 hz
        go_wp2_with (go_at_call 33; refine (fmt_any 16 2 _ (by unfold Base; decide) (word_lt _ _ _) _ (HT.out.below (hA1.out.trans (HB2.out.mono (by simp))))).mono ?_)
        rintro e w3 ⟨rfl, hb3⟩
        have HL3 := Lib.hid (bld_kept HL2.out hb3)
        have HB3 := Lib.hid (HB2.out.trans (hb3.mono (by have := HB2.out.size; have := HW1.out; omega)))
        clear HL2 HB2 hb3
        go_wp2_with (go_at_call 32; refine (strL_any _ _ _ _ _ HL3.out (by have := HLEA.out; have := HNUM.out; have := HK.out.1; omega) (by have := HB3.out.size; have := HW1.out; omega)).mono ?_)
        rintro e w4 ⟨⟨n4, rfl⟩, h4, hb4⟩
        rw [← txt_ahead] at h4
        have HL4 := Lib.hid h4
        have HB4 := Lib.hid (HB3.out.trans hb4)
        have c2 : w4.cell? ⟨w.heap.size, 2, none⟩ = some (.int .i64 2) := by rw [HB4.out.cell (by simp)]; exact q2.out
        clear HL3 HB3 h4 hb4
        go_wp2
        go_roundw
        case rel => exact ⟨k + 1, m + 2, Lib.hid (by have := HM.out; omega), by have := HM.out; omega, by go_num, HL4, HB4⟩
        case measure => simp [intOf]; omega

    · have hmE : m = 16 := by omega
      have HKE : Hid (k = 8) := Lib.hid (by have := HM.out; omega)
      go_wp2_with (go_at_call 35; refine (text_any _ _ _ _ HL.out (by have := HB.out.size; have := HW1.out; omega)).mono ?_)
      rintro e w2 ⟨rfl, hb2⟩
      go_wp2
      go_ret
      rw [HKE.out]
      exact ⟨rfl, hA1.out.trans ((HB.out.trans hb2).mono (by simp))⟩
end Go.Proofs.YtjppfalckfmalaaDoor.Wr
