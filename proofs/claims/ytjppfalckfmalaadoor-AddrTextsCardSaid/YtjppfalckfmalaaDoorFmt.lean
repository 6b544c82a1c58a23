/-
  strconv.FormatUint at the bases 10 and 16: the numeral. Conditions: the base is 10 or 16; the tables hold what the program lays.
-/
import Derived.Test.YtjppfalckfmalaaDoorSb
import Derived.Test.YtjppfalckfmalaaDoorAd
import Derived.Test.YtjppfalckfmalaaDoorTab
import Derived.Lib.AppendIntMem
import Derived.Deep.DeepFit
import Derived.Laws.Bits64b
namespace Go.Proofs.YtjppfalckfmalaaDoor.Fmt
open Go.ChangeShapes Go.WideShapes Go.ChangeAt Go.RowKit
open Go.Sort
open Go.Proofs.YtjppfalckfmalaaDoor.Sb
open Go.Proofs.YtjppfalckfmalaaDoor.Ad
open Go.Proofs.YtjppfalckfmalaaDoor.Tab
set_option linter.unusedVariables false

theorem dec_num (n : Nat) : Lib.decDigits n = num 10 n := by
  refine num_ind (p := fun n => Lib.decDigits n = num 10 n) 10 (by decide) ?_ ?_ n
  · intro n h
    rw [Lib.decDigits, dif_pos h, num_lt 10 n h, dgt, if_pos h]
  · intro n h ih
    rw [Lib.decDigits, dif_neg (by omega), ih, num_ge 10 n (by decide) h, dgt, if_pos (Nat.mod_lt _ (by decide))]

set_option maxHeartbeats 1000000 in
theorem f10_small (n : Nat) (h : n < 100) (w : World) :
    Calls Tryd.prog 40 #[.int .u64 n, .int .i64 10] w fun e w' => e = .returned (.string ⟨(num 10 n).toArray⟩) ∧ Below w.heap.size w w' := by
  have P1 := Lib.hid (fun w => Tryd.internal_strconv_small n h w)
  rw [← dec_num]
  go_enter Tryd.func40, Tryd.ntmps40
  go_wp2_with (go_at_call 46; refine (P1.out _).mono ?_; rintro e w' ⟨rfl, rfl⟩)
  go_ret
  exact ⟨rfl, Below.refl _ _⟩

set_option maxHeartbeats 12800000 in
set_option maxRecDepth 100000 in
theorem f10_big (n : Nat) (h : 100 ≤ n) (h2 : n < 1000000) (w : World) (ht : Tabs w) :
    Calls Tryd.prog 40 #[.int .u64 n, .int .i64 10] w fun e w' => e = .returned (.string ⟨(num 10 n).toArray⟩) ∧ Below w.heap.size w w' := by
  have hu64 : n < 18446744073709551616 := by omega
  have htab := Lib.hid ht.met.pow
  rw [← dec_num]
  have hnd20 : Lib.nDigits n ≤ 20 := by have := Lib.numDigits_eq n (by omega) hu64; split at this <;> omega
  have hal : Tryd.prog.arrayLen 60 = 24 := by simp [Program.arrayLen, Tryd.underlying60]
  have hsl : ∀ W, (Instr.sliceAt 60 (.pointer (some ⟨w.heap.size, 0, none⟩)) none (some (.int .i64 (Lib.nDigits n : Int))) none).run Tryd.prog W = .ok (.slice (some ⟨w.heap.size, 0, none⟩) (Lib.nDigits n) 24) W := fun W => by
    rw [run_sliceAt_array_h W 60 ⟨w.heap.size, 0, none⟩ (by simp [Program.arrayLen, Program.elem, Tryd.underlying60]) .i64 (Lib.nDigits n : Int) (by omega) (by rw [hal]; omega)]
    go_simp
  have hH0 := Lib.holds_zero0 w 60 (Lib.nDigits n) (by omega)
  have hfmt := Tryd.internal_strconv_formatBase10 w.heap.size 0 24 n (Array.replicate (Lib.nDigits n) 0) (w.alloc (.cells Lib.zeros24 60)) hH0 (by rw [Array.size_replicate]; exact Lib.lt_pow_nDigits n) hu64 (by rw [Array.size_replicate]; omega)
  rw [Array.size_replicate] at hfmt
  have HH0 := Lib.hid hH0
  have iu : (100 : Int) ≤ (n : Int) := by omega
  clear hH0 hal
  go_enter Tryd.func40, Tryd.ntmps40
  go_wp2_with (first
    | (go_at_call 47; refine (Tryd.internal_strconv_numDigits n (by omega) hu64 _ (Lib.tabIs_alloc htab.out _)).mono ?_; rintro e w' ⟨rfl, rfl⟩))
  go_at_call 48
  refine hfmt.mono ?_
  rintro e w' ⟨rfl, k, v', dk, rfl, hF⟩
  have hcv : (convert 37 9 (.slice (some ⟨w.heap.size, 0, none⟩) (Lib.nDigits n) 24)).run Tryd.prog ((putRow (fun (b : UInt8) => Value.int .u8 (b.toNat : Int)) (w.alloc (.cells Lib.zeros24 60)) w.heap.size 0 dk).drewN k)
      = .ok (.string ⟨(Lib.decDigits n).toArray⟩) ((putRow (fun (b : UInt8) => Value.int .u8 (b.toNat : Int)) (w.alloc (.cells Lib.zeros24 60)) w.heap.size 0 dk).drewN k) := by
    have h := run_convert_bytes_back (P := Tryd.prog) ((putRow (fun (b : UInt8) => Value.int .u8 (b.toNat : Int)) (w.alloc (.cells Lib.zeros24 60)) w.heap.size 0 dk).drewN k) 37 9 5 ⟨w.heap.size, 0, none⟩ 24 (Lib.decDigits n) Tryd.underlying37 Tryd.underlying5 Tryd.underlying9 (fun j hj => by
      rw [Lib.row_is_numeral hF j hj, Lib.add_plain, World.cell?_drewN]
      exact cell?_putRow (fun (b : UInt8) => Value.int .u8 (b.toNat : Int)) _ w.heap.size 0 _ dk HH0.out (by rw [hF.size, Array.size_replicate]) j (by rw [hF.size]; rw [Lib.decDigits_length] at hj; exact hj))
    rw [Lib.decDigits_length] at h
    exact h
  obtain ⟨os, eo⟩ := Lib.fin_at w (.cells Lib.zeros24 60) dk k 0
  have EO := Lib.hid eo
  clear eo
  go_wp2
  go_ret
  exact ⟨rfl, by rw [EO.out]; exact Lib.below_grow _ _ (Nat.le_refl _) _ _⟩

set_option maxHeartbeats 1000000 in
theorem tz_any (w : World) (ht : Tabs w) :
    Calls Tryd.prog 63 #[.int .u64 16] w fun e w' => e = .returned (.int .i64 4) ∧ w' = w := by
  have hc := ht.met.tz
  have e1 : bits .and .u64 16 (IntKind.u64.wrap (-16)) = 16 := by kernel_rfl
  have e2 : IntKind.u64.wrap (16 * 285870213051353865) = 4573923408821661840 := by kernel_rfl
  go_enter Tryd.func63, Tryd.ntmps63
  go_wp2
  go_ret
  exact ⟨rfl, rfl⟩

theorem pow2_any (w : World) :
    Calls Tryd.prog 62 #[.int .i64 16] w fun e w' => e = .returned (.bool true) ∧ w' = w := by
  have e1 : bits .and .i64 16 15 = 0 := by kernel_rfl
  go_enter Tryd.func62, Tryd.ntmps62
  go_wp2
  go_ret
  exact ⟨rfl, rfl⟩

/-- The array of formatBits: what its last cells hold. -/
structure Arr (K : Nat) (ds : List UInt8) (w : World) : Prop where
  cells : ∀ i, i < 65 → ∃ v, w.cell? ⟨K, i, none⟩ = some v
  fz : ∀ i, w.frozen? ⟨K, i, none⟩ = false
  dig : ∀ j (h : j < ds.length), w.cell? ⟨K, 65 - ds.length + j, none⟩ = some (.int .u8 (ds[j].toNat : Int))
theorem Arr.put {K : Nat} {ds : List UInt8} {w : World} (h : Arr K ds w) (p : Nat) (hp : ds.length + p = 64) (c : UInt8) : Arr K (c :: ds) (w.setCell ⟨K, p, none⟩ (.int .u8 (c.toNat : Int))) := by
  obtain ⟨v, hv⟩ := h.cells p (by omega)
  refine ⟨?_, ?_, ?_⟩
  · intro i hi
    by_cases e : i = p
    · subst e; exact ⟨_, World.cell?_setCell_same _ _ _ hv⟩
    · obtain ⟨u, hu⟩ := h.cells i hi
      exact ⟨u, by rw [World.cell?_setCell_other _ _ _ _ (by intro x; cases x; exact e rfl)]; exact hu⟩
  · intro i; rw [World.frozen?_setCell]; exact h.fz i
  · intro j hj
    cases j with
    | zero =>
      have e : 65 - (c :: ds).length + 0 = p := by simp; omega
      rw [e]; exact World.cell?_setCell_same _ _ _ hv
    | succ j =>
      have hj' : j < ds.length := by simpa using hj
      have e : 65 - (c :: ds).length + (j + 1) = 65 - ds.length + j := by simp; omega
      rw [e, World.cell?_setCell_other _ _ _ _ (by intro x; cases x; omega)]
      exact h.dig j hj'

def str36 : ByteArray := ⟨#[48, 49, 50, 51, 52, 53, 54, 55, 56, 57, 97, 98, 99, 100, 101, 102, 103, 104, 105, 106, 107, 108, 109, 110, 111, 112, 113, 114, 115, 116, 117, 118, 119, 120, 121, 122]⟩
theorem str36_at : ∀ (d : Nat) (h : d < str36.size), d < 16 → str36[d] = dgt d := by
  have all : ∀ d : Fin 16, str36[d.val]'(Nat.lt_of_lt_of_le d.isLt (by decide)) = dgt d.val := by decide +kernel
  intro d _ h
  exact all ⟨d, h⟩
theorem step16 : ∀ len N : Nat, len ≤ 3 → N < 16 ^ (4 - len) → 16 ≤ N → len ≤ 2 ∧ N / 16 < 16 ^ (4 - (len + 1))
  | 0, N, _, h, _ => by simp at h ⊢; omega
  | 1, N, _, h, _ => by simp at h ⊢; omega
  | 2, N, _, h, _ => by simp at h ⊢; omega
  | 3, N, _, h, g => by simp at h; omega
  | n + 4, _, h, _, _ => by omega

set_option maxHeartbeats 4000000 in
set_option maxRecDepth 100000 in
theorem bits_any (n : Nat) (h : n < 65536) (w : World) (ht : Tabs w) :
    Calls Tryd.prog 49 #[.slice none 0 0, .int .u64 n, .int .i64 16, .bool false, .bool false] w fun e w' => e = .returned (.tuple #[.slice none 0 0, .string ⟨(num 16 n).toArray⟩]) ∧ Below w.heap.size w w' := by
  have HT := Lib.hid ht
  clear ht
  go_enter Tryd.func49, Tryd.ntmps49
  go_wp2_with (first
    | (go_at_call 62; refine (pow2_any _).mono ?_; rintro e w' ⟨rfl, rfl⟩)
    | (go_at_call 63; refine (tz_any _ (HT.out.below ((Below.refl _ _).alloc (Nat.le_refl _) _))).mono ?_; rintro e w' ⟨rfl, rfl⟩))
  have hA0 : Hid (Arr w.heap.size [] (w.alloc (.cells Tryd.zeroCells76 76))) := Lib.hid ⟨fun i hi => by
      rw [World.cell?_alloc_new]
      have hz : Tryd.zeroCells76 = Array.replicate 65 (.int .u8 0) := by kernel_rfl
      exact ⟨_, by rw [hz, Array.getElem?_replicate, if_pos hi]⟩, fun i => World.frozen?_alloc_new _ _ _ _, fun j hj => by simp at hj⟩
  have hB0 : Hid (Below w.heap.size w (w.alloc (.cells Tryd.zeroCells76 76))) := Lib.hid ((Below.refl _ _).alloc (Nat.le_refl _) _)
  have hN0 : Hid (num 16 n = num 16 n ++ []) := Lib.hid (by simp)
  go_loopw [1, 13] (fun u i wr => ∃ (N p : Nat) (ds : List UInt8), ds.length + p = 64 ∧ ds.length ≤ 3 ∧ N < 16 ^ (4 - ds.length) ∧ u = .int .u64 N ∧ i = .int .i64 ((p : Int) + 1) ∧ Hid (num 16 n = num 16 N ++ ds) ∧ Hid (Arr w.heap.size ds wr) ∧ Hid (Below w.heap.size w wr))
    (fun u _ _ => (intOf u).toNat)
  case atStart => exact ⟨n, 64, [], rfl, by simp, by simpa using h, rfl, rfl, hN0, hA0, hB0⟩
  case round =>
    obtain ⟨N, p, ds, hlen, hl3, hN, rfl, rfl, HN, HA, HB⟩ := hrel
    clear hA0 hB0 hN0
    obtain ⟨v, hv⟩ := HA.out.cells p (by omega)
    have hf := HA.out.fz p
    have hN16 : N < 65536 := Nat.lt_of_lt_of_le hN (Nat.pow_le_pow_right (by decide) (show 4 - ds.length ≤ 4 by omega))
    have HL := Lib.hid hlen
    have HP := Lib.hid hN
    clear hlen hN
    have hp64 : p ≤ 64 := by have := HL.out; omega
    by_cases hge : 16 ≤ N
    · have hb : bits .and .u64 (N : Int) 15 = ((N % 16 : Nat) : Int) := by
        have := bits_and_u64_nat N 15 (by omega) (by decide)
        rw [Nat.and_two_pow_sub_one_eq_mod N 4] at this
        exact this
      go_wp2
      go_roundw
      case rel =>
        have hs := step16 ds.length N hl3 HP.out hge
        have hput := HA.out.put p HL.out (dgt (N % 16))
        have hd := str36_at (N % 16) (show N % 16 < 36 by omega) (by omega)
        unfold str36 at hd
        have hl := HL.out
        refine ⟨N / 16, p - 1, dgt (N % 16) :: ds, by simp; omega, by simp; omega, by simpa using hs.2, by simp, ?_, Lib.hid ?_, Lib.hid ?_, Lib.hid (HB.out.setCell (Nat.le_refl _) _)⟩
        · have : (p : Int) = ((p - 1 : Nat) : Int) + 1 := by omega
          rw [← this]
        · rw [HN.out, num_ge 16 N (by decide) hge]; simp
        · rw [hd]; exact hput
      case measure => simp [intOf]; omega
    · have hput := HA.out.put p HL.out (dgt N)
      have hd := Lib.hid (str36_at N (show N < 36 by omega) (by omega))
      have hsl : ∀ W, (Instr.sliceAt 76 (.pointer (some ⟨w.heap.size, 0, none⟩)) (some (.int .i64 (p : Int))) none none).run Tryd.prog W = .ok (.slice (some ⟨w.heap.size, p, none⟩) (ds.length + 1) (ds.length + 1)) W := fun W => by
        have hl := HL.out
        have hal : Tryd.prog.arrayLen 76 = 65 := by simp [Program.arrayLen, Tryd.underlying76]
        rw [run_sliceAt_array_l W 76 ⟨w.heap.size, 0, none⟩ (by simp [Program.arrayLen, Program.elem, Tryd.underlying76]) .i64 (p : Int) (by omega) (by rw [hal]; omega)]
        go_simp
        omega
      have hcv : (convert 37 9 (.slice (some ⟨w.heap.size, p, none⟩) (ds.length + 1) (ds.length + 1))).run Tryd.prog (wr.setCell ⟨w.heap.size, p, none⟩ (.int .u8 (str36[N]'(show N < 36 by omega)).toNat))
          = .ok (.string ⟨(num 16 n).toArray⟩) (wr.setCell ⟨w.heap.size, p, none⟩ (.int .u8 (str36[N]'(show N < 36 by omega)).toNat)) := by
        have hl := HL.out
        have h := run_convert_bytes_back (P := Tryd.prog) (wr.setCell ⟨w.heap.size, p, none⟩ (.int .u8 (str36[N]'(show N < 36 by omega)).toNat)) 37 9 5 ⟨w.heap.size, p, none⟩ (ds.length + 1) (num 16 n) Tryd.underlying37 Tryd.underlying5 Tryd.underlying9 (fun j hj => by
          have e : num 16 n = dgt N :: ds := by rw [HN.out, num_lt 16 N (by omega)]; rfl
          have hj' : j < (dgt N :: ds).length := by rw [← e]; exact hj
          have ee : (num 16 n)[j] = (dgt N :: ds)[j] := by simp only [e]
          have := hput.dig j hj'
          rw [hd.out, Lib.add_plain, ee, ← this]
          congr 2
          simp; omega)
        have e : (num 16 n).length = ds.length + 1 := by rw [HN.out, num_lt 16 N (by omega)]; rfl
        rw [e] at h
        exact h
      unfold str36 at hcv
      clear hput
      go_wp2
      go_ret2
      exact ⟨rfl, HB.out.setCell (Nat.le_refl _) _⟩

set_option maxHeartbeats 1000000 in
theorem f16_any (n : Nat) (h : n < 65536) (w : World) (ht : Tabs w) :
    Calls Tryd.prog 40 #[.int .u64 n, .int .i64 16] w fun e w' => e = .returned (.string ⟨(num 16 n).toArray⟩) ∧ Below w.heap.size w w' := by
  have P1 := Lib.hid (fun w ht => bits_any n h w ht)
  have HT := Lib.hid ht
  clear ht
  go_enter Tryd.func40, Tryd.ntmps40
  go_wp2_with (go_at_call 49; refine (P1.out _ HT.out).mono ?_; rintro e w1 ⟨rfl, hb1⟩)
  go_ret
  exact ⟨rfl, hb1⟩

/-- The two bases, and how many numbers there are to write. -/
def Base (b z : Nat) : Prop := (b = 10 ∧ z = 1) ∨ (b = 16 ∧ z = 2)

set_option maxHeartbeats 1000000 in
theorem fmt_any (b z n : Nat) (hb : Base b z) (h : n < 256 ^ z) (w : World) (ht : Tabs w) :
    Calls Tryd.prog 33 #[.int .u64 n, .int .i64 b] w fun e w' => e = .returned (.string ⟨(num b n).toArray⟩) ∧ Below w.heap.size w w' := by
  have key : Calls Tryd.prog 40 #[.int .u64 n, .int .i64 b] w fun e w' => e = .returned (.string ⟨(num b n).toArray⟩) ∧ Below w.heap.size w w' := by
    rcases hb with ⟨rfl, rfl⟩ | ⟨rfl, rfl⟩
    · by_cases hn : n < 100
      · exact f10_small n hn w
      · exact f10_big n (by omega) (by omega) w ht
    · exact f16_any n (by omega) w ht
  have KEY := Lib.hid key
  clear key ht hb h
  go_enter Tryd.func33, Tryd.ntmps33
  go_wp2_with (go_at_call 40; refine KEY.out.mono ?_; rintro e w1 ⟨rfl, hb1⟩)
  go_ret
  exact ⟨rfl, hb1⟩

end Go.Proofs.YtjppfalckfmalaaDoor.Fmt
