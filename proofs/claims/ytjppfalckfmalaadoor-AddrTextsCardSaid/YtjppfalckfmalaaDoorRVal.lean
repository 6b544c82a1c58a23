/-
  The document's value: the number of a numeral below a top, or -1. Conditions: base 10 and top 256, or base 16 and top 65536.
-/
import Derived.Test.YtjppfalckfmalaaDoorRNum
namespace Go.Proofs.YtjppfalckfmalaaDoor.RVal
open Go.ChangeShapes Go.WideShapes Go.ChangeAt Go.RowKit
open Go.Proofs.YtjppfalckfmalaaDoor.Sb
open Go.Proofs.YtjppfalckfmalaaDoor.Ad
open Go.Proofs.YtjppfalckfmalaaDoor.Tab
open Go.Proofs.YtjppfalckfmalaaDoor.Tr
open Go.Proofs.YtjppfalckfmalaaDoor.Wr
open Go.Proofs.YtjppfalckfmalaaDoor.RFo
open Go.Proofs.YtjppfalckfmalaaDoor.RNum
set_option linter.unusedVariables false

instance (c : UInt8) : Decidable (isD c) := by unfold isD; infer_instance
/-- The digit found among the first k: its number, or -1. -/
def dAt (c : UInt8) (k : Nat) : Int := if isD c ∧ dv c < k then (dv c : Int) else -1
theorem dAt_zero (c : UInt8) : dAt c 0 = -1 := by rw [dAt, if_neg (by omega)]
theorem dgt_dv : ∀ n : Nat, n < 256 → isD (UInt8.ofNat n) → dv (UInt8.ofNat n) < 16 → dgt (dv (UInt8.ofNat n)) = UInt8.ofNat n := by decide +kernel
theorem dAt_hit (c : UInt8) (k : Nat) (hk : k < 16) (h : dgt k = c) : dAt c (k + 1) = k := by
  have h1 := dgt_is k hk
  have h2 := dv_dgt k hk
  rw [h] at h1 h2
  rw [dAt, if_pos ⟨h1, by omega⟩, h2]
theorem dAt_miss (c : UInt8) (k : Nat) (hk : k < 16) (h : dgt k ≠ c) : dAt c (k + 1) = dAt c k := by
  unfold dAt
  by_cases hc : isD c ∧ dv c < k
  · rw [if_pos hc, if_pos ⟨hc.1, by omega⟩]
  · rw [if_neg hc]
    rw [if_neg]
    rintro ⟨h1, h2⟩
    have h3 : dv c = k := by
      by_cases hl : dv c < k
      · exact absurd ⟨h1, hl⟩ hc
      · omega
    apply h
    have hn := c.toNat_lt
    have := dgt_dv c.toNat hn (by simpa using h1) (by simp; omega)
    simp only [UInt8.ofNat_toNat] at this
    rw [← h3]; exact this
theorem val_lt (b : Nat) (l : List UInt8) (k : Nat) (hk : k < l.length) (h : val b (l.take k) < b ^ k) (hd : dv l[k] < b) : val b (l.take (k + 1)) < b ^ (k + 1) := by
  rw [val_take_succ b l k hk, Nat.pow_succ]
  have : val b (l.take k) * b + b ≤ b ^ k * b := by rw [← Nat.succ_mul]; exact Nat.mul_le_mul_right b h
  omega

theorem str16_at : ∀ d (h : d < str16.size), d < 16 → str16[d] = dgt d := by
  have all : ∀ d : Fin 16, str16[d.val]'(Nat.lt_of_lt_of_le d.isLt (by decide)) = dgt d.val := by decide +kernel
  intro d _ h
  exact all ⟨d, h⟩
theorem index_at (s : ByteArray) (k : Nat) (h : k < s.size) (W : World) : (Instr.index 9 (.string s) (.int .i64 (k : Int))).run Tryd.prog W = .ok (.int .u8 (s[k].toNat : Int)) W := by
  rw [run_index_string W 9 s .i64 (k : Int) Tryd.underlying9, dif_pos ⟨by omega, by omega⟩]
  simp
theorem list_at (s : ByteArray) (k : Nat) (h : k < s.size) (h' : k < s.data.toList.length) : s.data.toList[k] = s[k] := by
  simp; rfl
theorem none_digit {b t k : Nat} {l : List UInt8} (hb : 2 ≤ b) (hc : b ≤ 16) (hk : k < l.length) (h : ¬ (isD l[k] ∧ dv l[k] < b)) : ∀ n, n < t → l ≠ num b n := fun n _ e => by
  have := num_mem b hb hc n l[k] (by rw [← e]; exact List.getElem_mem hk)
  exact h this
theorem none_val {b t acc : Nat} {l : List UInt8} (hb : 2 ≤ b) (hc : b ≤ 16) (h : acc = val b l) (h2 : t ≤ acc ∨ num b acc ≠ l) : ∀ n, n < t → l ≠ num b n := fun n hn e => by
  have h3 : acc = n := by rw [h, e, val_num b hb hc]
  rcases h2 with h2 | h2
  · omega
  · exact h2 (by rw [h3, e])
theorem none_len {b t : Nat} {l : List UInt8} (hb : 2 ≤ b) (ht : t ≤ b ^ 5) (h : ¬ (1 ≤ l.length ∧ l.length ≤ 5)) : ∀ n, n < t → l ≠ num b n := fun n hn e => by
  have h1 := num_pos b hb n
  have h2 := num_len b hb 4 n (show n < b ^ 5 by omega)
  rw [← e] at h1 h2
  exact h ⟨h1, h2⟩
theorem digit_at (d : Nat) (h : d < 16) (W : World) : (Instr.index 9 (.string str16) (.int .i64 (d : Int))).run Tryd.prog W = .ok (.int .u8 ((dgt d).toNat : Int)) W := by
  rw [index_at str16 d h W, str16_at d h h]

/-- What value answers. -/
def RV (b t : Nat) (l : List UInt8) (r : Int) : Prop := (∃ n : Nat, r = n ∧ n < t ∧ l = num b n) ∨ (r = -1 ∧ ∀ n, n < t → l ≠ num b n)

set_option maxHeartbeats 8000000 in
set_option maxRecDepth 100000 in
theorem value10 (s : ByteArray) (w : World) (hmax : s.size ≤ 1000000) :
    Calls Tryd.prog 30 #[.string s, .int .i64 10, .int .i64 256] w fun e w' => (∃ r, e = .returned (.int .i64 r) ∧ RV 10 256 s.data.toList r) ∧ ∃ k, w' = w.drewN k := by
  have HSZ := Lib.hid (show s.data.toList.length = s.size by simp)
  by_cases hlen : 1 ≤ s.size ∧ s.size ≤ 5
  · obtain ⟨hl1, hl5⟩ := hlen
    go_enter Tryd.func30, Tryd.ntmps30
    go_wp2
    go_loopw [7, 8] (fun v i wr => ∃ (k acc : Nat), k ≤ s.size ∧ i = .int .i64 k ∧ v = .int .i64 acc ∧ acc ≤ 100000 ∧ Hid (acc = val 10 (s.data.toList.take k) ∧ acc < 10 ^ k) ∧ Hid (∃ n, wr = w.drewN n)) (fun _ i _ => s.size - (intOf i).toNat)
    case atStart => exact ⟨0, 0, by omega, rfl, rfl, by omega, Lib.hid ⟨rfl, by decide⟩, Lib.hid ⟨0, by simp [World.drewN_zero]⟩⟩
    case round =>
      obtain ⟨k, acc, hk, rfl, rfl, hacc, HA, HW⟩ := hrel
      by_cases hkn : k < s.size
      · have hkl : k < s.data.toList.length := by have := HSZ.out; omega
        go_wp2
        go_loopw [9, 10] (fun d j w2 => ∃ q : Nat, q ≤ 10 ∧ j = .int .i64 q ∧ d = .int .i64 (dAt s[k] q) ∧ Hid (∃ n, w2 = w.drewN n)) (fun _ j _ => 10 - (intOf j).toNat)
        case atStart => exact ⟨0, by omega, rfl, by rw [dAt_zero], HW⟩
        case round =>
          obtain ⟨q, hq, rfl, rfl, HW2⟩ := hrel
          by_cases hqn : q < 10
          · by_cases hit : dgt q = s[k]
            · have HD := Lib.hid (dAt_hit s[k] q (by omega) hit)
              have i1 := digit_at q (by omega)
              have i2 := index_at s k hkn
              unfold str16 at i1
              have i3 : (((dgt q).toNat : Int) == (s[k].toNat : Int)) = true := by rw [hit]; simp
              clear hit
              go_wp2
              go_quiet (fail)
              clear i1 i2
              go_wp2
              go_roundw
              case rel =>
                refine ⟨q + 1, by omega, by go_num, by rw [HD.out], Lib.hid ?_⟩
                obtain ⟨n, rfl⟩ := HW2.out
                exact ⟨_, World.drewN_drewN _ _ _⟩
              case measure => simp [intOf]; omega
            · have HD := Lib.hid (dAt_miss s[k] q (by omega) hit)
              have i1 := digit_at q (by omega)
              have i2 := index_at s k hkn
              unfold str16 at i1
              have i3 : (((dgt q).toNat : Int) == (s[k].toNat : Int)) = false := by
                rw [beq_eq_false_iff_ne]
                intro e
                exact hit (UInt8.toNat_inj.1 (by omega))
              clear hit
              go_wp2
              go_quiet (fail)
              clear i1 i2
              go_wp2
              go_roundw
              case rel =>
                refine ⟨q + 1, by omega, by go_num, by rw [HD.out], Lib.hid ?_⟩
                obtain ⟨n, rfl⟩ := HW2.out
                exact ⟨_, World.drewN_drewN _ _ _⟩
              case measure => simp [intOf]; omega
          · obtain rfl : q = 10 := by omega
            by_cases hd : isD s[k] ∧ dv s[k] < 10
            · have ed : dAt s[k] 10 = (dv s[k] : Int) := by rw [dAt, if_pos hd]
              have hdl := hd.2
              have HN : Hid (acc * 10 + dv s[k] = val 10 (s.data.toList.take (k + 1)) ∧ acc * 10 + dv s[k] < 10 ^ (k + 1)) := Lib.hid (by
                have h1 := list_at s k hkn hkl
                have h2 := val_take_succ 10 s.data.toList k hkl
                have h3 := val_lt 10 s.data.toList k hkl (by rw [← HA.out.1]; exact HA.out.2) (by rw [h1]; exact hdl)
                rw [h1] at h2
                rw [HA.out.1]
                exact ⟨h2.symm, by rw [← h2]; exact h3⟩)
              have HM : Hid (acc * 10 + dv s[k] ≤ 100000) := Lib.hid (by
                have h1 := HN.out.2
                have h2 : 10 ^ (k + 1) ≤ 10 ^ 5 := Nat.pow_le_pow_right (by decide) (by omega)
                have h3 : (10 ^ 5 : Nat) = 100000 := by decide
                omega)
              have hMi : (acc : Int) * 10 + (dv s[k] : Int) ≤ 100000 := by have := HM.out; omega
              rw [ed]
              clear ed hd
              generalize dv s[k] = d at *
              go_wp2
              go_roundw
              case rel => exact ⟨k + 1, acc * 10 + d, by omega, by go_num, by go_num, HM.out, HN, HW2⟩
              case measure => simp [intOf]; omega
            · have ed : dAt s[k] 10 = -1 := by rw [dAt, if_neg hd]
              have HX := Lib.hid (none_digit (b := 10) (t := 256) (by decide) (by decide) hkl (by rw [list_at s k hkn hkl]; exact hd))
              rw [ed]
              clear ed hd
              go_wp2
              go_ret
              exact ⟨⟨_, rfl, .inr ⟨rfl, HX.out⟩⟩, HW2.out⟩
      · have hke : k = s.size := by omega
        have HV : Hid (acc = val 10 s.data.toList) := Lib.hid (by
          rw [HA.out.1, List.take_of_length_le (by have := HSZ.out; omega)])
        have haI : (acc : Int) ≤ 100000 := by omega
        clear hacc
        by_cases ht : 256 ≤ acc
        · have HX := Lib.hid (none_val (t := 256) (by decide) (by decide) HV.out (.inl ht))
          have htI : 256 ≤ (acc : Int) := by omega
          clear ht
          go_wp2
          go_ret
          exact ⟨⟨_, rfl, .inr ⟨rfl, HX.out⟩⟩, HW.out⟩
        · have htI : (acc : Int) < 256 := by omega
          have HTN := Lib.hid (show acc < 256 by omega)
          have hdec : decide (256 ≤ (acc : Int)) = false := decide_eq_false (by omega)
          clear ht htI haI
          by_cases heq : num 10 acc = s.data.toList
          · have hq : (num 10 acc == s.toList) = true := by rw [Lib.toList_data]; exact beq_iff_eq.2 heq
            have HQ := Lib.hid heq
            clear heq
            go_wp2_with (go_at_call 27; refine (number10 acc (by have := HTN.out; omega) _).mono ?_; rintro e w2 ⟨rfl, n, rfl⟩)
            go_ret
            refine ⟨⟨_, rfl, .inl ⟨acc, rfl, HTN.out, HQ.out.symm⟩⟩, ?_⟩
            obtain ⟨m, rfl⟩ := HW.out
            exact ⟨_, World.drewN_drewN _ _ _⟩
          · have hq : (num 10 acc == s.toList) = false := by rw [Lib.toList_data]; exact beq_eq_false_iff_ne.2 heq
            have HX := Lib.hid (none_val (t := 256) (by decide) (by decide) HV.out (.inr heq))
            clear heq
            go_wp2_with (go_at_call 27; refine (number10 acc (by have := HTN.out; omega) _).mono ?_; rintro e w2 ⟨rfl, n, rfl⟩)
            go_ret
            refine ⟨⟨_, rfl, .inr ⟨rfl, HX.out⟩⟩, ?_⟩
            obtain ⟨m, rfl⟩ := HW.out
            exact ⟨_, World.drewN_drewN _ _ _⟩
  · have HX := Lib.hid (none_len (b := 10) (t := 256) (l := s.data.toList) (by decide) (by decide) (by rw [HSZ.out]; exact hlen))
    go_enter Tryd.func30, Tryd.ntmps30
    by_cases h1 : s.size < 1
    · go_wp2
      go_ret
      exact ⟨⟨_, rfl, .inr ⟨rfl, HX.out⟩⟩, 0, by simp [World.drewN_zero]⟩
    · have h5 : 5 < s.size := by omega
      go_wp2
      go_ret
      exact ⟨⟨_, rfl, .inr ⟨rfl, HX.out⟩⟩, 0, by simp [World.drewN_zero]⟩

set_option maxHeartbeats 8000000 in
set_option maxRecDepth 100000 in
theorem value16 (s : ByteArray) (w : World) (hmax : s.size ≤ 1000000) :
    Calls Tryd.prog 30 #[.string s, .int .i64 16, .int .i64 65536] w fun e w' => (∃ r, e = .returned (.int .i64 r) ∧ RV 16 65536 s.data.toList r) ∧ ∃ k, w' = w.drewN k := by
  have HSZ := Lib.hid (show s.data.toList.length = s.size by simp)
  by_cases hlen : 1 ≤ s.size ∧ s.size ≤ 5
  · obtain ⟨hl1, hl5⟩ := hlen
    go_enter Tryd.func30, Tryd.ntmps30
    go_wp2
    go_loopw [7, 8] (fun v i wr => ∃ (k acc : Nat), k ≤ s.size ∧ i = .int .i64 k ∧ v = .int .i64 acc ∧ acc ≤ 1048576 ∧ Hid (acc = val 16 (s.data.toList.take k) ∧ acc < 16 ^ k) ∧ Hid (∃ n, wr = w.drewN n)) (fun _ i _ => s.size - (intOf i).toNat)
    case atStart => exact ⟨0, 0, by omega, rfl, rfl, by omega, Lib.hid ⟨rfl, by decide⟩, Lib.hid ⟨0, by simp [World.drewN_zero]⟩⟩
    case round =>
      obtain ⟨k, acc, hk, rfl, rfl, hacc, HA, HW⟩ := hrel
      by_cases hkn : k < s.size
      · have hkl : k < s.data.toList.length := by have := HSZ.out; omega
        go_wp2
        go_loopw [9, 10] (fun d j w2 => ∃ q : Nat, q ≤ 16 ∧ j = .int .i64 q ∧ d = .int .i64 (dAt s[k] q) ∧ Hid (∃ n, w2 = w.drewN n)) (fun _ j _ => 16 - (intOf j).toNat)
        case atStart => exact ⟨0, by omega, rfl, by rw [dAt_zero], HW⟩
        case round =>
          obtain ⟨q, hq, rfl, rfl, HW2⟩ := hrel
          by_cases hqn : q < 16
          · by_cases hit : dgt q = s[k]
            · have HD := Lib.hid (dAt_hit s[k] q (by omega) hit)
              have i1 := digit_at q (by omega)
              have i2 := index_at s k hkn
              unfold str16 at i1
              have i3 : (((dgt q).toNat : Int) == (s[k].toNat : Int)) = true := by rw [hit]; simp
              clear hit
              go_wp2
              go_quiet (fail)
              clear i1 i2
              go_wp2
              go_roundw
              case rel =>
                refine ⟨q + 1, by omega, by go_num, by rw [HD.out], Lib.hid ?_⟩
                obtain ⟨n, rfl⟩ := HW2.out
                exact ⟨_, World.drewN_drewN _ _ _⟩
              case measure => simp [intOf]; omega
            · have HD := Lib.hid (dAt_miss s[k] q (by omega) hit)
              have i1 := digit_at q (by omega)
              have i2 := index_at s k hkn
              unfold str16 at i1
              have i3 : (((dgt q).toNat : Int) == (s[k].toNat : Int)) = false := by
                rw [beq_eq_false_iff_ne]
                intro e
                exact hit (UInt8.toNat_inj.1 (by omega))
              clear hit
              go_wp2
              go_quiet (fail)
              clear i1 i2
              go_wp2
              go_roundw
              case rel =>
                refine ⟨q + 1, by omega, by go_num, by rw [HD.out], Lib.hid ?_⟩
                obtain ⟨n, rfl⟩ := HW2.out
                exact ⟨_, World.drewN_drewN _ _ _⟩
              case measure => simp [intOf]; omega
          · obtain rfl : q = 16 := by omega
            by_cases hd : isD s[k] ∧ dv s[k] < 16
            · have ed : dAt s[k] 16 = (dv s[k] : Int) := by rw [dAt, if_pos hd]
              have hdl := hd.2
              have HN : Hid (acc * 16 + dv s[k] = val 16 (s.data.toList.take (k + 1)) ∧ acc * 16 + dv s[k] < 16 ^ (k + 1)) := Lib.hid (by
                have h1 := list_at s k hkn hkl
                have h2 := val_take_succ 16 s.data.toList k hkl
                have h3 := val_lt 16 s.data.toList k hkl (by rw [← HA.out.1]; exact HA.out.2) (by rw [h1]; exact hdl)
                rw [h1] at h2
                rw [HA.out.1]
                exact ⟨h2.symm, by rw [← h2]; exact h3⟩)
              have HM : Hid (acc * 16 + dv s[k] ≤ 1048576) := Lib.hid (by
                have h1 := HN.out.2
                have h2 : 16 ^ (k + 1) ≤ 16 ^ 5 := Nat.pow_le_pow_right (by decide) (by omega)
                have h3 : (16 ^ 5 : Nat) = 1048576 := by decide
                omega)
              have hMi : (acc : Int) * 16 + (dv s[k] : Int) ≤ 1048576 := by have := HM.out; omega
              rw [ed]
              clear ed hd
              generalize dv s[k] = d at *
              go_wp2
              go_roundw
              case rel => exact ⟨k + 1, acc * 16 + d, by omega, by go_num, by go_num, HM.out, HN, HW2⟩
              case measure => simp [intOf]; omega
            · have ed : dAt s[k] 16 = -1 := by rw [dAt, if_neg hd]
              have HX := Lib.hid (none_digit (b := 16) (t := 65536) (by decide) (by decide) hkl (by rw [list_at s k hkn hkl]; exact hd))
              rw [ed]
              clear ed hd
              go_wp2
              go_ret
              exact ⟨⟨_, rfl, .inr ⟨rfl, HX.out⟩⟩, HW2.out⟩
      · have hke : k = s.size := by omega
        have HV : Hid (acc = val 16 s.data.toList) := Lib.hid (by
          rw [HA.out.1, List.take_of_length_le (by have := HSZ.out; omega)])
        have haI : (acc : Int) ≤ 1048576 := by omega
        clear hacc
        by_cases ht : 65536 ≤ acc
        · have HX := Lib.hid (none_val (t := 65536) (by decide) (by decide) HV.out (.inl ht))
          have htI : 65536 ≤ (acc : Int) := by omega
          clear ht
          go_wp2
          go_ret
          exact ⟨⟨_, rfl, .inr ⟨rfl, HX.out⟩⟩, HW.out⟩
        · have htI : (acc : Int) < 65536 := by omega
          have HTN := Lib.hid (show acc < 65536 by omega)
          have hdec : decide (65536 ≤ (acc : Int)) = false := decide_eq_false (by omega)
          clear ht htI haI
          by_cases heq : num 16 acc = s.data.toList
          · have hq : (num 16 acc == s.toList) = true := by rw [Lib.toList_data]; exact beq_iff_eq.2 heq
            have HQ := Lib.hid heq
            clear heq
            go_wp2_with (go_at_call 27; refine (number16 acc (by have := HTN.out; omega) _).mono ?_; rintro e w2 ⟨rfl, n, rfl⟩)
            go_ret
            refine ⟨⟨_, rfl, .inl ⟨acc, rfl, HTN.out, HQ.out.symm⟩⟩, ?_⟩
            obtain ⟨m, rfl⟩ := HW.out
            exact ⟨_, World.drewN_drewN _ _ _⟩
          · have hq : (num 16 acc == s.toList) = false := by rw [Lib.toList_data]; exact beq_eq_false_iff_ne.2 heq
            have HX := Lib.hid (none_val (t := 65536) (by decide) (by decide) HV.out (.inr heq))
            clear heq
            go_wp2_with (go_at_call 27; refine (number16 acc (by have := HTN.out; omega) _).mono ?_; rintro e w2 ⟨rfl, n, rfl⟩)
            go_ret
            refine ⟨⟨_, rfl, .inr ⟨rfl, HX.out⟩⟩, ?_⟩
            obtain ⟨m, rfl⟩ := HW.out
            exact ⟨_, World.drewN_drewN _ _ _⟩
  · have HX := Lib.hid (none_len (b := 16) (t := 65536) (l := s.data.toList) (by decide) (by decide) (by rw [HSZ.out]; exact hlen))
    go_enter Tryd.func30, Tryd.ntmps30
    by_cases h1 : s.size < 1
    · go_wp2
      go_ret
      exact ⟨⟨_, rfl, .inr ⟨rfl, HX.out⟩⟩, 0, by simp [World.drewN_zero]⟩
    · have h5 : 5 < s.size := by omega
      go_wp2
      go_ret
      exact ⟨⟨_, rfl, .inr ⟨rfl, HX.out⟩⟩, 0, by simp [World.drewN_zero]⟩
end Go.Proofs.YtjppfalckfmalaaDoor.RVal
