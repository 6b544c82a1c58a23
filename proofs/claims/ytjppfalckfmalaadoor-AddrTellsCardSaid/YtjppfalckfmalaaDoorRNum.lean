/-
  The document's number and value: the numeral, and the number of a numeral below a top. Conditions: the base is 10 or 16.
-/
import Derived.Test.YtjppfalckfmalaaDoorRFo
namespace Go.Proofs.YtjppfalckfmalaaDoor.RNum
open Go.ChangeShapes Go.WideShapes Go.ChangeAt Go.RowKit
open Go.Proofs.YtjppfalckfmalaaDoor.Sb
open Go.Proofs.YtjppfalckfmalaaDoor.Ad
open Go.Proofs.YtjppfalckfmalaaDoor.Tab
open Go.Proofs.YtjppfalckfmalaaDoor.Tr
open Go.Proofs.YtjppfalckfmalaaDoor.Wr
open Go.Proofs.YtjppfalckfmalaaDoor.RFo
set_option linter.unusedVariables false

def str16 : ByteArray := ⟨#[48, 49, 50, 51, 52, 53, 54, 55, 56, 57, 97, 98, 99, 100, 101, 102]⟩
theorem str16_cut : ∀ d, d < 16 → str16.extract d (d + 1) = ⟨#[dgt d]⟩ := by decide +kernel
theorem digit_slice (d : Nat) (h : d < 16) (W : World) :
    (Instr.slice 9 (.string str16) (some (.int .i64 (d : Int))) (some (.int .i64 ((d : Int) + 1))) none).run Tryd.prog W = .ok (.string ⟨#[dgt d]⟩) W := by
  rw [slice_run str16 d (d + 1) (by omega) (by show d + 1 ≤ 16; omega) ((d : Int) + 1) (by omega) W, str16_cut d h]
theorem cons_cat (c : UInt8) (l : List UInt8) : (⟨#[c]⟩ : ByteArray) ++ ⟨l.toArray⟩ = ⟨(c :: l).toArray⟩ := by
  apply ByteArray.ext
  apply Array.toList_inj.1
  simp

set_option maxHeartbeats 2000000 in
set_option maxRecDepth 100000 in
theorem number10 (n : Nat) (hn : n < 1000000) (w : World) :
    Calls Tryd.prog 27 #[.int .i64 n, .int .i64 10] w fun e w' => e = .returned (.string ⟨(num 10 n).toArray⟩) ∧ ∃ k, w' = w.drewN k := by
  have H0 := Lib.hid (show num 10 n ++ [] = num 10 n by simp)
  go_enter Tryd.func27, Tryd.ntmps27
  go_wp2
  go_loopw [0, 5] (fun v s wr => ∃ (N : Nat) (ds : List UInt8), N < 1000000 ∧ v = .int .i64 N ∧ s = .string ⟨ds.toArray⟩ ∧ Hid (num 10 N ++ ds = num 10 n) ∧ Hid (∃ k, wr = w.drewN k)) (fun v _ _ => (intOf v).toNat)
  case atStart => exact ⟨n, [], hn, rfl, rfl, H0, Lib.hid ⟨0, by simp [World.drewN_zero]⟩⟩
  case round =>
    obtain ⟨N, ds, hN, rfl, rfl, HN, HW⟩ := hrel
    clear H0
    have hd : N % 10 < 16 := by omega
    have e1 : (N : Int).tmod 10 = (N : Int) % 10 := by rw [Int.tmod_eq_emod_of_nonneg (by omega)]
    have e2 : IntKind.i64.wrap ((N : Int) % 10 + 1) = (N : Int) % 10 + 1 := IntWalk.i64_in _ (by omega)
    have hsl := digit_slice (N % 10) hd
    unfold str16 at hsl
    rw [show ((N % 10 : Nat) : Int) = (N : Int) % 10 by omega] at hsl
    have hcat : ∀ W : World, (Op.stringOp .add ⟨#[dgt (N % 10)]⟩ ⟨ds.toArray⟩).run Tryd.prog W = .ok (.string ⟨(dgt (N % 10) :: ds).toArray⟩) W := fun W => by
      have h1 : (num 10 N ++ ds).length = (num 10 n).length := by rw [HN.out]
      have h2 := num_len 10 (by decide) 6 n (by omega)
      simp only [List.length_append] at h1
      have := run_string_add_lists (P := Tryd.prog) W [dgt (N % 10)] ds (by simp) (by omega)
      exact this
    by_cases hlt : N < 10
    · have e3 : ((N : Int) / 10 == 0) = true := by rw [beq_iff_eq]; omega
      have HE : Hid (dgt (N % 10) :: ds = num 10 n) := Lib.hid (by rw [← HN.out, num_lt 10 N hlt, Nat.mod_eq_of_lt hlt]; rfl)
      go_wp2
      go_quiet (fail)
      clear e1 e2 hsl hcat
      go_wp2
      go_ret
      refine ⟨by rw [HE.out]; rfl, ?_⟩
      obtain ⟨k, rfl⟩ := HW.out
      exact ⟨_, World.drewN_drewN _ _ _⟩
    · have e3 : ((N : Int) / 10 == 0) = false := by rw [beq_eq_false_iff_ne]; omega
      have HE : Hid (num 10 (N / 10) ++ (dgt (N % 10) :: ds) = num 10 n) := Lib.hid (by rw [← HN.out, num_ge 10 N (by decide) (by omega)]; simp)
      go_wp2
      go_quiet (fail)
      clear e1 e2 hsl hcat
      go_wp2
      go_roundw
      case rel =>
        refine ⟨N / 10, dgt (N % 10) :: ds, by omega, by go_num, rfl, HE, Lib.hid ?_⟩
        obtain ⟨k, rfl⟩ := HW.out
        exact ⟨_, World.drewN_drewN _ _ _⟩
      case measure => simp [intOf]; omega

set_option maxHeartbeats 2000000 in
set_option maxRecDepth 100000 in
theorem number16 (n : Nat) (hn : n < 1000000) (w : World) :
    Calls Tryd.prog 27 #[.int .i64 n, .int .i64 16] w fun e w' => e = .returned (.string ⟨(num 16 n).toArray⟩) ∧ ∃ k, w' = w.drewN k := by
  have H0 := Lib.hid (show num 16 n ++ [] = num 16 n by simp)
  go_enter Tryd.func27, Tryd.ntmps27
  go_wp2
  go_loopw [0, 5] (fun v s wr => ∃ (N : Nat) (ds : List UInt8), N < 1000000 ∧ v = .int .i64 N ∧ s = .string ⟨ds.toArray⟩ ∧ Hid (num 16 N ++ ds = num 16 n) ∧ Hid (∃ k, wr = w.drewN k)) (fun v _ _ => (intOf v).toNat)
  case atStart => exact ⟨n, [], hn, rfl, rfl, H0, Lib.hid ⟨0, by simp [World.drewN_zero]⟩⟩
  case round =>
    obtain ⟨N, ds, hN, rfl, rfl, HN, HW⟩ := hrel
    clear H0
    have hd : N % 16 < 16 := by omega
    have e1 : (N : Int).tmod 16 = (N : Int) % 16 := by rw [Int.tmod_eq_emod_of_nonneg (by omega)]
    have e2 : IntKind.i64.wrap ((N : Int) % 16 + 1) = (N : Int) % 16 + 1 := IntWalk.i64_in _ (by omega)
    have hsl := digit_slice (N % 16) hd
    unfold str16 at hsl
    rw [show ((N % 16 : Nat) : Int) = (N : Int) % 16 by omega] at hsl
    have hcat : ∀ W : World, (Op.stringOp .add ⟨#[dgt (N % 16)]⟩ ⟨ds.toArray⟩).run Tryd.prog W = .ok (.string ⟨(dgt (N % 16) :: ds).toArray⟩) W := fun W => by
      have h1 : (num 16 N ++ ds).length = (num 16 n).length := by rw [HN.out]
      have h2 := num_len 16 (by decide) 6 n (by omega)
      simp only [List.length_append] at h1
      have := run_string_add_lists (P := Tryd.prog) W [dgt (N % 16)] ds (by simp) (by omega)
      exact this
    by_cases hlt : N < 16
    · have e3 : ((N : Int) / 16 == 0) = true := by rw [beq_iff_eq]; omega
      have HE : Hid (dgt (N % 16) :: ds = num 16 n) := Lib.hid (by rw [← HN.out, num_lt 16 N hlt, Nat.mod_eq_of_lt hlt]; rfl)
      go_wp2
      go_quiet (fail)
      clear e1 e2 hsl hcat
      go_wp2
      go_ret
      refine ⟨by rw [HE.out]; rfl, ?_⟩
      obtain ⟨k, rfl⟩ := HW.out
      exact ⟨_, World.drewN_drewN _ _ _⟩
    · have e3 : ((N : Int) / 16 == 0) = false := by rw [beq_eq_false_iff_ne]; omega
      have HE : Hid (num 16 (N / 16) ++ (dgt (N % 16) :: ds) = num 16 n) := Lib.hid (by rw [← HN.out, num_ge 16 N (by decide) (by omega)]; simp)
      go_wp2
      go_quiet (fail)
      clear e1 e2 hsl hcat
      go_wp2
      go_roundw
      case rel =>
        refine ⟨N / 16, dgt (N % 16) :: ds, by omega, by go_num, rfl, HE, Lib.hid ?_⟩
        obtain ⟨k, rfl⟩ := HW.out
        exact ⟨_, World.drewN_drewN _ _ _⟩
      case measure => simp [intOf]; omega
end Go.Proofs.YtjppfalckfmalaaDoor.RNum
