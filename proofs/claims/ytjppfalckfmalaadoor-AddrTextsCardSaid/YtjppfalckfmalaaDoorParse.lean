/-
  strconv.ParseUint at the bases 10 and 16: a numeral's number; of another text a number that fits, or an error. Conditions: the base is 10 (8 bits) or 16 (16 bits).
-/
import Derived.Test.YtjppfalckfmalaaDoorFmt
import Derived.BigCall
import Derived.BigGuard
import Derived.Lib.ConvBytes
import Derived.Lib.ParseIntBMem
import Derived.Lib.AtoiErrMem
import Derived.Laws.BitsAllLaws
namespace Go.Proofs.YtjppfalckfmalaaDoor.Parse
open Go.ChangeShapes Go.WideShapes Go.ChangeAt Go.RowKit
open Go.Proofs.YtjppfalckfmalaaDoor.Sb
open Go.Proofs.YtjppfalckfmalaaDoor.Ad
open Go.Proofs.YtjppfalckfmalaaDoor.Tab
open Go.Proofs.YtjppfalckfmalaaDoor.Fmt
set_option linter.unusedVariables false

/-- What internal/strconv.ParseUint answers: T: the type of its errors. -/
def Got (b z : Nat) (l : List UInt8) (e : Ending) : Prop :=
  (∃ n : Nat, e = .returned (.tuple #[.int .u64 n, .nilIface]) ∧ n < 256 ^ z ∧ ∀ m, m < 256 ^ z → l = num b m → n = m) ∨
  (∃ (n : Int) (c : Int), e = .returned (.tuple #[.int .u64 n, .iface 67 (.int .i64 c)]) ∧ (c = 1 ∨ c = 2) ∧ ∀ m, m < 256 ^ z → l ≠ num b m)

/-- The number so far is the numeral's. -/
def Sofar (b z : Nat) (l : List UInt8) (k acc : Nat) : Prop := ∀ m, m < 256 ^ z → l = num b m → acc = val b (l.take k)

theorem good_digit {b z : Nat} (hb : 2 ≤ b) (hc : b ≤ 16) {l : List UInt8} {m k : Nat} (h : l = num b m) (hk : k < l.length) : isD l[k] ∧ dv l[k] < b := by
  have := num_mem b hb hc m l[k] (by rw [← h]; exact List.getElem_mem hk)
  exact this
theorem sofar_zero (b z : Nat) (l : List UInt8) : Sofar b z l 0 0 := fun m _ _ => by simp [val_nil]
theorem sofar_succ {b z : Nat} {l : List UInt8} {k acc d : Nat} (hb : 2 ≤ b) (hc : b ≤ 16) (hk : k < l.length) (h : Sofar b z l k acc) (hd : isD l[k] → dv l[k] = d) : Sofar b z l (k + 1) (acc * b + d) := fun m hm e => by
  rw [val_take_succ b l k hk, ← h m hm e, hd (good_digit (z := z) hb hc e hk).1]
theorem sofar_over {b z : Nat} {l : List UInt8} {k acc d : Nat} (hb : 2 ≤ b) (hc : b ≤ 16) (hk : k < l.length) (h : Sofar b z l k acc) (hd : isD l[k] → dv l[k] = d) (ho : 256 ^ z ≤ acc * b + d) : ∀ m, m < 256 ^ z → l ≠ num b m := fun m hm e => by
  have h1 := sofar_succ hb hc hk h hd m hm e
  have h2 := val_take_le b (by omega) l (k + 1)
  have h3 : val b l = m := by rw [e, val_num b hb hc]
  omega
theorem sofar_none {b z : Nat} {l : List UInt8} {k : Nat} (hb : 2 ≤ b) (hc : b ≤ 16) (hk : k < l.length) (hd : isD l[k] → b ≤ dv l[k]) : ∀ m, m < 256 ^ z → l ≠ num b m := fun m hm e => by
  have := good_digit (z := z) hb hc e hk
  have := hd this.1
  omega
theorem sofar_end {b z : Nat} {l : List UInt8} {k acc : Nat} (hb : 2 ≤ b) (hc : b ≤ 16) (hk : l.length ≤ k) (h : Sofar b z l k acc) : ∀ m, m < 256 ^ z → l = num b m → acc = m := fun m hm e => by
  rw [h m hm e, List.take_of_length_le hk, e, val_num b hb hc]

theorem low_all : ∀ c : Nat, c < 256 → (c ||| 32) < 256 ∧ (97 ≤ c → c ≤ 122 → (c ||| 32) = c) ∧ (c = 95 → (c ||| 32) = 127) := by decide +kernel

theorem lower_any (c : Nat) (hc : c < 256) (w : World) :
    Calls Tryd.prog 53 #[.int .u8 c] w fun e w' => e = .returned (.int .u8 ((c ||| 32 : Nat) : Int)) ∧ w' = w := by
  have e1 : bits .or .u8 (c : Int) 32 = ((c ||| 32 : Nat) : Int) := u8_or_nat c 32 hc (by decide)
  generalize ((c ||| 32 : Nat) : Int) = x at *
  go_enter Tryd.func53, Tryd.ntmps53
  go_wp2
  go_ret
  exact ⟨rfl, rfl⟩

theorem lower_95 (w : World) :
    Calls Tryd.prog 53 #[.int .u8 95] w fun e w' => e = .returned (.int .u8 127) ∧ w' = w :=
  lower_any 95 (by decide) w

set_option maxHeartbeats 4000000 in
set_option maxRecDepth 100000 in
theorem none_any (b z : Int) (w : World) :
    Calls Tryd.prog 42 #[.string ⟨#[]⟩, .int .i64 b, .int .i64 z] w fun e w' => e = .returned (.tuple #[.int .u64 0, .iface 67 (.int .i64 2)]) ∧ w' = w := by
  go_enter Tryd.func42, Tryd.ntmps42
  go_wp2
  go_ret2
  exact ⟨rfl, rfl⟩

set_option maxHeartbeats 32000000 in
set_option maxRecDepth 100000 in
theorem some_10 (t : ByteArray) (hne : t.size ≠ 0) (hmax : t.size ≤ 1000000) (w : World) :
    Calls Tryd.prog 42 #[.string t, .int .i64 10, .int .i64 8] w fun e w' => Got 10 1 t.data.toList e ∧ Below w.heap.size w w' := by
  have hemp : t.toList.isEmpty = false := by
    rw [← decide_eq_emptyBytes]
    exact decide_eq_false (fun h => hne (by rw [h]; rfl))
  have hcv := Lib.run_convert_string_bytes (P := Tryd.prog) w 9 37 5 t (u := .string) Tryd.underlying9 Tryd.underlying37 Tryd.underlying5
  have hB : ∀ j, j < t.size → (Lib.bytesWorld w 5 t).cell? ⟨w.heap.size, j, none⟩ = some (.int .u8 (t.data.toList.getD j 0).toNat) := fun j hj => Lib.bytesWorld_cell w 5 t j hj
  have HW : Hid (Below w.heap.size w (Lib.bytesWorld w 5 t)) := Lib.hid (Lib.bytesWorld_below w _ t)
  obtain ⟨W1, hW1⟩ : ∃ W1, W1 = Lib.bytesWorld w 5 t := ⟨_, rfl⟩
  rw [← hW1] at hcv hB HW
  clear hW1
  obtain ⟨bs, hL⟩ : ∃ bs, bs = t.data.toList := ⟨_, rfl⟩
  have hLn : bs.length = t.size := by rw [hL, Lib.size_eq]
  rw [← hL] at hB ⊢
  clear hL
  have hmv : IntKind.u64.wrap (IntKind.u64.wrap 256 - 1) = 255 := by
    rw [IntKind.wrap_u64, IntKind.wrap_u64]
    decide
  have HLN := Lib.hid hLn
  clear hLn
  go_enter Tryd.func42, Tryd.ntmps42
  go_wp2
  go_loop [12, 13, 101] (fun vu vn vi => ∃ (k acc : Nat) (a : Int), vu = .bool false ∧ vn = .int .u64 a ∧ vi = .int .i64 k ∧ k ≤ t.size ∧ 0 ≤ a ∧ a ≤ 255 ∧ Hid (a = acc ∧ Sofar 10 1 bs k acc))
    (fun _ _ vi => t.size - (intOf vi).toNat)
  case atStart => exact ⟨0, 0, 0, rfl, rfl, rfl, by omega, by omega, by omega, Lib.hid ⟨rfl, sofar_zero _ _ _⟩⟩
  case round =>
    obtain ⟨k, acc, a, rfl, rfl, rfl, hk, ha0, ha1, HS⟩ := hrel
    by_cases hkn : k < t.size
    · have hc := hB k hkn
      have hkl : k < bs.length := by have := HLN.out; omega
      have hget : bs.getD k 0 = bs[k]'hkl := by simp [List.getD, List.getElem?_eq_getElem hkl]
      rw [hget] at hc
      have hlow := low_all (bs[k]'hkl).toNat (bs[k]'hkl).toNat_lt
      have HI : Hid (isD (bs[k]'hkl) = ((48 ≤ (bs[k]'hkl).toNat ∧ (bs[k]'hkl).toNat ≤ 57) ∨ (97 ≤ (bs[k]'hkl).toNat ∧ (bs[k]'hkl).toNat ≤ 102))) := Lib.hid rfl
      have HD : Hid (dv (bs[k]'hkl) = if (bs[k]'hkl).toNat ≤ 57 then (bs[k]'hkl).toNat - 48 else (bs[k]'hkl).toNat - 87) := Lib.hid rfl
      have hc256 : (bs[k]'hkl).toNat < 256 := (bs[k]'hkl).toNat_lt
      generalize hcc : (bs[k]'hkl).toNat = c at hc hlow hc256 HI HD
      clear hcc hB hget
      by_cases hdig : 48 ≤ c ∧ c ≤ 57
      · obtain ⟨hd0, hd1⟩ := hdig
        have HDD : Hid (isD (bs[k]'hkl) → dv (bs[k]'hkl) = c - 48) := Lib.hid fun _ => by rw [HD.out, if_pos hd1]
        clear hlow
        by_cases hov : 255 < a * 10 + ((c : Int) - 48)
        · have HO := Lib.hid (sofar_over (b := 10) (z := 1) (by decide) (by decide) hkl HS.out.2 HDD.out (by have := HS.out.1; omega))
          go_wp2
          go_ret2
          exact ⟨.inr ⟨_, 1, rfl, .inl rfl, HO.out⟩, HW.out⟩
        · have HN := Lib.hid (sofar_succ (b := 10) (z := 1) (by decide) (by decide) hkl HS.out.2 HDD.out)
          have iov : a * 10 + ((c : Int) - 48) ≤ 255 := by omega
          have HV : Hid (a * 10 + ((c : Int) - 48) = ((acc * 10 + (c - 48) : Nat) : Int)) := Lib.hid (by have := HS.out.1; omega)
          clear hov
          go_wp2
          refine ⟨⟨k + 1, acc * 10 + (c - 48), a * 10 + ((c : Int) - 48), rfl, (by first | rfl | (congr 1; omega)), (by first | rfl | (congr 1; omega)), by omega, by omega, by omega, Lib.hid ⟨HV.out, HN.out⟩⟩, by simp [intOf]; omega⟩
      · have hlo := hlow.1
        have hls := hlow.2.1
        have hl9 := hlow.2.2
        clear hlow
        have Q1 := Lib.hid (fun w => lower_any c hc256 w)
        generalize (c ||| 32) = lo at *
        have HX := Lib.hid (sofar_none (b := 10) (z := 1) (by decide) (by decide) hkl (l := bs) (fun hi => by
          rw [HI.out] at hi
          rw [HD.out]
          rw [if_neg (by omega)]; omega))
        clear HI HD hls hl9
        go_wp2_with (first | (go_at_call 53; refine (Q1.out _).mono ?_; rintro e w' ⟨rfl, rfl⟩) | (go_at_call 53; refine (lower_95 _).mono ?_; rintro e w' ⟨rfl, rfl⟩))
        all_goals go_ret2
        all_goals exact ⟨.inr ⟨_, 2, rfl, .inr rfl, HX.out⟩, HW.out⟩
    · have hkk : k = t.size := by omega
      have HE := Lib.hid (sofar_end (b := 10) (z := 1) (by decide) (by decide) (show bs.length ≤ k by have := HLN.out; omega) HS.out.2)
      subst hkk
      go_wp2
      go_ret2
      exact ⟨.inl ⟨acc, by rw [HS.out.1]; rfl, by have := HS.out.1; omega, HE.out⟩, HW.out⟩

set_option maxHeartbeats 32000000 in
set_option maxRecDepth 100000 in
theorem some_16 (t : ByteArray) (hne : t.size ≠ 0) (hmax : t.size ≤ 1000000) (w : World) :
    Calls Tryd.prog 42 #[.string t, .int .i64 16, .int .i64 16] w fun e w' => Got 16 2 t.data.toList e ∧ Below w.heap.size w w' := by
  have hemp : t.toList.isEmpty = false := by
    rw [← decide_eq_emptyBytes]
    exact decide_eq_false (fun h => hne (by rw [h]; rfl))
  have hcv := Lib.run_convert_string_bytes (P := Tryd.prog) w 9 37 5 t (u := .string) Tryd.underlying9 Tryd.underlying37 Tryd.underlying5
  have hB : ∀ j, j < t.size → (Lib.bytesWorld w 5 t).cell? ⟨w.heap.size, j, none⟩ = some (.int .u8 (t.data.toList.getD j 0).toNat) := fun j hj => Lib.bytesWorld_cell w 5 t j hj
  have HW : Hid (Below w.heap.size w (Lib.bytesWorld w 5 t)) := Lib.hid (Lib.bytesWorld_below w _ t)
  obtain ⟨W1, hW1⟩ : ∃ W1, W1 = Lib.bytesWorld w 5 t := ⟨_, rfl⟩
  rw [← hW1] at hcv hB HW
  clear hW1
  obtain ⟨bs, hL⟩ : ∃ bs, bs = t.data.toList := ⟨_, rfl⟩
  have hLn : bs.length = t.size := by rw [hL, Lib.size_eq]
  rw [← hL] at hB ⊢
  clear hL
  have hmv : IntKind.u64.wrap (IntKind.u64.wrap 65536 - 1) = 65535 := by
    rw [IntKind.wrap_u64, IntKind.wrap_u64]
    decide
  have HLN := Lib.hid hLn
  clear hLn
  go_enter Tryd.func42, Tryd.ntmps42
  go_wp2
  go_loop [12, 13, 101] (fun vu vn vi => ∃ (k acc : Nat) (a : Int), vu = .bool false ∧ vn = .int .u64 a ∧ vi = .int .i64 k ∧ k ≤ t.size ∧ 0 ≤ a ∧ a ≤ 65535 ∧ Hid (a = acc ∧ Sofar 16 2 bs k acc))
    (fun _ _ vi => t.size - (intOf vi).toNat)
  case atStart => exact ⟨0, 0, 0, rfl, rfl, rfl, by omega, by omega, by omega, Lib.hid ⟨rfl, sofar_zero _ _ _⟩⟩
  case round =>
    obtain ⟨k, acc, a, rfl, rfl, rfl, hk, ha0, ha1, HS⟩ := hrel
    by_cases hkn : k < t.size
    · have hc := hB k hkn
      have hkl : k < bs.length := by have := HLN.out; omega
      have hget : bs.getD k 0 = bs[k]'hkl := by simp [List.getD, List.getElem?_eq_getElem hkl]
      rw [hget] at hc
      have hlow := low_all (bs[k]'hkl).toNat (bs[k]'hkl).toNat_lt
      have HI : Hid (isD (bs[k]'hkl) = ((48 ≤ (bs[k]'hkl).toNat ∧ (bs[k]'hkl).toNat ≤ 57) ∨ (97 ≤ (bs[k]'hkl).toNat ∧ (bs[k]'hkl).toNat ≤ 102))) := Lib.hid rfl
      have HD : Hid (dv (bs[k]'hkl) = if (bs[k]'hkl).toNat ≤ 57 then (bs[k]'hkl).toNat - 48 else (bs[k]'hkl).toNat - 87) := Lib.hid rfl
      have hc256 : (bs[k]'hkl).toNat < 256 := (bs[k]'hkl).toNat_lt
      generalize hcc : (bs[k]'hkl).toNat = c at hc hlow hc256 HI HD
      clear hcc hB hget
      by_cases hdig : 48 ≤ c ∧ c ≤ 57
      · obtain ⟨hd0, hd1⟩ := hdig
        have HDD : Hid (isD (bs[k]'hkl) → dv (bs[k]'hkl) = c - 48) := Lib.hid fun _ => by rw [HD.out, if_pos hd1]
        clear hlow
        by_cases hov : 65535 < a * 16 + ((c : Int) - 48)
        · have HO := Lib.hid (sofar_over (b := 16) (z := 2) (by decide) (by decide) hkl HS.out.2 HDD.out (by have := HS.out.1; omega))
          go_wp2
          go_ret2
          exact ⟨.inr ⟨_, 1, rfl, .inl rfl, HO.out⟩, HW.out⟩
        · have HN := Lib.hid (sofar_succ (b := 16) (z := 2) (by decide) (by decide) hkl HS.out.2 HDD.out)
          have iov : a * 16 + ((c : Int) - 48) ≤ 65535 := by omega
          have HV : Hid (a * 16 + ((c : Int) - 48) = ((acc * 16 + (c - 48) : Nat) : Int)) := Lib.hid (by have := HS.out.1; omega)
          clear hov
          go_wp2
          refine ⟨⟨k + 1, acc * 16 + (c - 48), a * 16 + ((c : Int) - 48), rfl, (by first | rfl | (congr 1; omega)), (by first | rfl | (congr 1; omega)), by omega, by omega, by omega, Lib.hid ⟨HV.out, HN.out⟩⟩, by simp [intOf]; omega⟩
      · have hlo := hlow.1
        have hls := hlow.2.1
        have hl9 := hlow.2.2
        clear hlow
        have Q1 := Lib.hid (fun w => lower_any c hc256 w)
        generalize (c ||| 32) = lo at *
        by_cases hlet : 97 ≤ lo ∧ lo ≤ 102
        · obtain ⟨l0, l1⟩ := hlet
          have h95 : ¬ (c : Int) = 95 := fun h => by have := hl9 (by omega); omega
          clear hl9
          have HDD : Hid (isD (bs[k]'hkl) → dv (bs[k]'hkl) = lo - 87) := Lib.hid fun hi => by
            rw [HI.out] at hi
            rw [HD.out, if_neg (by omega), hls (by omega) (by omega)]
          clear hls
          by_cases hov : 65535 < a * 16 + ((lo : Int) - 87)
          · have HO := Lib.hid (sofar_over (b := 16) (z := 2) (by decide) (by decide) hkl HS.out.2 HDD.out (by have := HS.out.1; omega))
            have iov : 65535 < a * 16 + ((lo : Int) - 97 + 10) := by omega
            clear hov
            go_wp2_with (first | (go_at_call 53; refine (Q1.out _).mono ?_; rintro e w' ⟨rfl, rfl⟩) | (go_at_call 53; refine (lower_95 _).mono ?_; rintro e w' ⟨rfl, rfl⟩))
            all_goals go_ret2
            all_goals exact ⟨.inr ⟨_, 1, rfl, .inl rfl, HO.out⟩, HW.out⟩
          · have HN := Lib.hid (sofar_succ (b := 16) (z := 2) (by decide) (by decide) hkl HS.out.2 HDD.out)
            have iov : a * 16 + ((lo : Int) - 97 + 10) ≤ 65535 := by omega
            have HV : Hid (a * 16 + ((lo : Int) - 97 + 10) = ((acc * 16 + (lo - 87) : Nat) : Int)) := Lib.hid (by have := HS.out.1; omega)
            clear hov
            go_wp2_with (first | (go_at_call 53; refine (Q1.out _).mono ?_; rintro e w' ⟨rfl, rfl⟩) | (go_at_call 53; refine (lower_95 _).mono ?_; rintro e w' ⟨rfl, rfl⟩))
            all_goals refine ⟨⟨k + 1, acc * 16 + (lo - 87), a * 16 + ((lo : Int) - 97 + 10), rfl, (by first | rfl | (congr 1; omega)), (by first | rfl | (congr 1; omega)), by omega, by omega, by omega, Lib.hid ⟨HV.out, HN.out⟩⟩, by simp [intOf]; omega⟩
        · have HX := Lib.hid (sofar_none (b := 16) (z := 2) (by decide) (by decide) hkl (l := bs) (fun hi => by
            rw [HI.out] at hi
            have := hls (by omega) (by omega)
            omega))
          clear HI HD hls hl9
          go_wp2_with (first | (go_at_call 53; refine (Q1.out _).mono ?_; rintro e w' ⟨rfl, rfl⟩) | (go_at_call 53; refine (lower_95 _).mono ?_; rintro e w' ⟨rfl, rfl⟩))
          all_goals go_ret2
          all_goals exact ⟨.inr ⟨_, 2, rfl, .inr rfl, HX.out⟩, HW.out⟩
    · have hkk : k = t.size := by omega
      have HE := Lib.hid (sofar_end (b := 16) (z := 2) (by decide) (by decide) (show bs.length ≤ k by have := HLN.out; omega) HS.out.2)
      subst hkk
      go_wp2
      go_ret2
      exact ⟨.inl ⟨acc, by rw [HS.out.1]; rfl, by have := HS.out.1; omega, HE.out⟩, HW.out⟩

end Go.Proofs.YtjppfalckfmalaaDoor.Parse
