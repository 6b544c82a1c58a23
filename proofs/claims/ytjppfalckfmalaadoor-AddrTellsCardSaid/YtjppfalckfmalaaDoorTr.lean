/-
  addr's Family, Text and Read: which address, its text, the address of a text. Conditions: a text of at most 1,000 bytes; the tables hold what the program lays.
-/
import Derived.Test.YtjppfalckfmalaaDoorRd
namespace Go.Proofs.YtjppfalckfmalaaDoor.Tr
open Go.ChangeShapes Go.WideShapes Go.ChangeAt Go.RowKit
open Go.Proofs.YtjppfalckfmalaaDoor.Sb
open Go.Proofs.YtjppfalckfmalaaDoor.Ad
open Go.Proofs.YtjppfalckfmalaaDoor.Tab
open Go.Proofs.YtjppfalckfmalaaDoor.Fmt
open Go.Proofs.YtjppfalckfmalaaDoor.Wr
open Go.Proofs.YtjppfalckfmalaaDoor.Parse
open Go.Proofs.YtjppfalckfmalaaDoor.Rd
set_option linter.unusedVariables false

def fam (a : ByteArray) : Int := if a.size = 4 then 0 else if a.size = 16 then 1 else -1
theorem fam4 {a : ByteArray} (h : a.size = 4) : fam a = 0 := by rw [fam, if_pos h]
theorem fam6 {a : ByteArray} (h : a.size = 16) : fam a = 1 := by rw [fam, if_neg (by omega), if_pos h]
theorem famN {a : ByteArray} (h : a.size ≠ 4) (h2 : a.size ≠ 16) : fam a = -1 := by rw [fam, if_neg h, if_neg h2]

theorem family_any (a : ByteArray) (w : World) :
    Calls Tryd.prog 11 #[.string a] w fun e w' => e = .returned (.int .i64 (fam a)) ∧ w' = w := by
  by_cases h4 : a.size = 4
  · rw [fam4 h4]
    go_enter Tryd.func11, Tryd.ntmps11
    go_wp2
    go_ret
    exact ⟨rfl, rfl⟩
  · by_cases h6 : a.size = 16
    · rw [fam6 h6]
      go_enter Tryd.func11, Tryd.ntmps11
      go_wp2
      go_ret
      exact ⟨rfl, rfl⟩
    · rw [famN h4 h6]
      have e1 : ((a.size : Int) == 4) = false := by rw [beq_eq_false_iff_ne]; omega
      have e2 : ((a.size : Int) == 16) = false := by rw [beq_eq_false_iff_ne]; omega
      go_enter Tryd.func11, Tryd.ntmps11
      go_wp2
      go_ret
      exact ⟨rfl, rfl⟩

set_option maxHeartbeats 2000000 in
theorem text_any (a : ByteArray) (w : World) (ht : Tabs w) :
    Calls Tryd.prog 19 #[.string a] w fun e w' => e = .returned (.tuple #[.string (txA a), .bool (isA a)]) ∧ Below w.heap.size w w' := by
  have P1 := Lib.hid (fun w => family_any a w)
  have c0 := ht.met.s0
  have c1 := ht.met.s1
  have c2 := ht.met.s2
  have c3 := ht.met.s3
  have c4 := ht.met.s4
  have c5 := ht.met.s5
  have c6 := ht.met.s6
  have c7 := ht.met.s7
  have HT := Lib.hid ht
  clear ht
  by_cases h4 : a.size = 4
  · have ei : isA a = true := by unfold isA; simp [h4]
    have et : txA a = ⟨(txt 46 10 1 4 a.data.toList).toArray⟩ := by rw [txA, if_pos ei, atxt4 a h4]
    rw [ei, et]
    rw [fam4 h4] at P1
    have P2 := Lib.hid (write4 a h4 w HT.out)
    clear h4 ei et
    go_enter Tryd.func19, Tryd.ntmps19
    go_wp2_with (first
      | (go_at_call 11; refine (P1.out _).mono ?_; rintro e w' ⟨rfl, rfl⟩)
      | (go_at_call 26; refine P2.out.mono ?_; rintro e w1 ⟨rfl, hb1⟩))
    go_ret2
    exact ⟨rfl, hb1⟩
  · by_cases h6 : a.size = 16
    · have ei : isA a = true := by unfold isA; simp [h6]
      have et : txA a = ⟨(txt 58 16 2 8 a.data.toList).toArray⟩ := by rw [txA, if_pos ei, atxt6 a h6]
      rw [ei, et]
      rw [fam6 h6] at P1
      have P2 := Lib.hid (write8 a h6 w HT.out)
      clear h6 h4 ei et
      go_enter Tryd.func19, Tryd.ntmps19
      go_wp2_with (first
        | (go_at_call 11; refine (P1.out _).mono ?_; rintro e w' ⟨rfl, rfl⟩)
        | (go_at_call 26; refine P2.out.mono ?_; rintro e w1 ⟨rfl, hb1⟩))
      go_ret2
      exact ⟨rfl, hb1⟩
    · have ei : isA a = false := by unfold isA; simp [h4, h6]
      have et : txA a = ByteArray.empty := by rw [txA, if_neg (by rw [ei]; decide)]
      rw [ei, et]
      rw [famN h4 h6] at P1
      clear h6 h4 ei et
      go_enter Tryd.func19, Tryd.ntmps19
      go_wp2_with (go_at_call 11; refine (P1.out _).mono ?_; rintro e w' ⟨rfl, rfl⟩)
      go_ret2
      exact ⟨rfl, Below.refl _ _⟩

theorem res4 {s o : ByteArray} {ok : Bool} (h : Res 46 10 1 4 s o ok) : (ok = true ∧ Of s o) ∨ (ok = false ∧ o = ByteArray.empty ∧ ∀ a : ByteArray, a.size = 4 → ¬ Of s a) := by
  rcases h with ⟨h1, h2, h3⟩ | ⟨h1, h2, h3⟩
  · exact .inl ⟨h1, by unfold isA; simp [h2], by rw [atxt4 o h2]; exact h3⟩
  · exact .inr ⟨h1, h2, fun a ha h => h3 a.data.toList (by simpa using ha) (by rw [← atxt4 a ha]; exact h.2)⟩
theorem res8 {s o : ByteArray} {ok : Bool} (h : Res 58 16 2 8 s o ok) : (ok = true ∧ Of s o) ∨ (ok = false ∧ o = ByteArray.empty ∧ ∀ a : ByteArray, a.size = 16 → ¬ Of s a) := by
  rcases h with ⟨h1, h2, h3⟩ | ⟨h1, h2, h3⟩
  · exact .inl ⟨h1, by unfold isA; simp [h2], by rw [atxt6 o h2]; exact h3⟩
  · exact .inr ⟨h1, h2, fun a ha h => h3 a.data.toList (by simpa using ha) (by rw [← atxt6 a ha]; exact h.2)⟩
theorem of_none {s : ByteArray} (h4 : ∀ a : ByteArray, a.size = 4 → ¬ Of s a) (h6 : ∀ a : ByteArray, a.size = 16 → ¬ Of s a) : ∀ a, ¬ Of s a := fun a h => by
  rcases isA_cases h.1 with h' | h'
  · exact h4 a h' h
  · exact h6 a h' h

theorem index0 (W : World) : (Instr.index 31 (.agg #[.string ⟨#[46]⟩, .int .i64 4, .int .i64 1, .int .i64 10, .string ⟨#[58]⟩, .int .i64 8, .int .i64 2, .int .i64 16]) (.int .i64 0)).run Tryd.prog W = .ok (.agg #[.string ⟨#[46]⟩, .int .i64 4, .int .i64 1, .int .i64 10]) W := by kernel_rfl
theorem index1 (W : World) : (Instr.index 31 (.agg #[.string ⟨#[46]⟩, .int .i64 4, .int .i64 1, .int .i64 10, .string ⟨#[58]⟩, .int .i64 8, .int .i64 2, .int .i64 16]) (.int .i64 1)).run Tryd.prog W = .ok (.agg #[.string ⟨#[58]⟩, .int .i64 8, .int .i64 2, .int .i64 16]) W := by kernel_rfl

set_option maxHeartbeats 4000000 in
set_option maxRecDepth 100000 in
theorem read_any (s : ByteArray) (hs : s.size ≤ 1000) (w : World) (ht : Tabs w) :
    Calls Tryd.prog 21 #[.string s] w fun e w' => e = .returned (.tuple #[.string (rdA s), .bool (rdO s)]) ∧ Below w.heap.size w w' := by
  have c0 := ht.met.s0
  have c1 := ht.met.s1
  have c2 := ht.met.s2
  have c3 := ht.met.s3
  have c4 := ht.met.s4
  have c5 := ht.met.s5
  have c6 := ht.met.s6
  have c7 := ht.met.s7
  have HT := Lib.hid ht
  clear ht
  go_enter Tryd.func21, Tryd.ntmps21
  go_wp2
  clear c0 c1 c2 c3 c4 c5 c6 c7
  go_loopw [9] (fun i wr => Hid (Below w.heap.size w wr) ∧ (i = .int .i64 0 ∨ (i = .int .i64 1 ∧ Hid (∀ a : ByteArray, a.size = 4 → ¬ Of s a)) ∨ (i = .int .i64 2 ∧ Hid (∀ a : ByteArray, a.size = 4 → ¬ Of s a) ∧ Hid (∀ a : ByteArray, a.size = 16 → ¬ Of s a)))) (fun i _ => 2 - (intOf i).toNat)
  case atStart => exact ⟨Lib.hid (Below.refl _ _), .inl rfl⟩
  case round =>
    obtain ⟨HB, rfl | ⟨rfl, H4⟩ | ⟨rfl, H4, H6⟩⟩ := hrel
    · have HTW := Lib.hid (HT.out.below (HB.out.trans ((Below.refl _ wr).alloc HB.out.size (.cells #[.string ⟨#[46]⟩, .int .i64 4, .int .i64 1, .int .i64 10] 30))))
      have hi0 := index0
      go_wp2_with (go_at_call 28; refine (read4 s hs _ HTW.out).mono ?_)
      rintro e w1 ⟨o, ok, rfl, hr, hb1⟩
      have HB1 := Lib.hid ((HB.out.alloc HB.out.size _).trans (hb1.mono (by have := HB.out.size; simp; omega)))
      clear hb1
      rcases res4 hr with ⟨rfl, ho⟩ | ⟨rfl, rfl, ho⟩
      · have HO := Lib.hid (rd_yes s o ho)
        clear hr ho
        go_wp2
        go_ret2
        rw [HO.out.1, HO.out.2]
        exact ⟨rfl, HB1.out⟩
      · have HO := Lib.hid ho
        clear hr ho
        go_wp2
        go_roundw
        case rel => exact ⟨HB1, .inr (.inl ⟨rfl, HO⟩)⟩
        case measure => simp [intOf]
    · have HTW := Lib.hid (HT.out.below (HB.out.trans ((Below.refl _ wr).alloc HB.out.size (.cells #[.string ⟨#[58]⟩, .int .i64 8, .int .i64 2, .int .i64 16] 30))))
      have hi1 := index1
      go_wp2_with (go_at_call 28; refine (read8 s hs _ HTW.out).mono ?_)
      rintro e w1 ⟨o, ok, rfl, hr, hb1⟩
      have HB1 := Lib.hid ((HB.out.alloc HB.out.size _).trans (hb1.mono (by have := HB.out.size; simp; omega)))
      clear hb1
      rcases res8 hr with ⟨rfl, ho⟩ | ⟨rfl, rfl, ho⟩
      · have HO := Lib.hid (rd_yes s o ho)
        clear hr ho
        go_wp2
        go_ret2
        rw [HO.out.1, HO.out.2]
        exact ⟨rfl, HB1.out⟩
      · have HO := Lib.hid ho
        clear hr ho
        go_wp2
        go_roundw
        case rel => exact ⟨HB1, .inr (.inr ⟨rfl, H4, HO⟩)⟩
        case measure => simp [intOf]
    · have HO := Lib.hid (rd_no s (of_none H4.out H6.out))
      go_wp2
      go_ret2
      rw [HO.out.1, HO.out.2]
      exact ⟨rfl, HB.out⟩
end Go.Proofs.YtjppfalckfmalaaDoor.Tr
