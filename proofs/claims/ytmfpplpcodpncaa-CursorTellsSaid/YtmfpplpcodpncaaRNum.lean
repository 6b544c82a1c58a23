/-
  What the document's own Num answers of a cursor that may be.
-/
import Derived.Test.YtmfpplpcodpncaaRefT
import Derived.Test.YtmfpplpcodpncaaNumC
namespace Go.Proofs.Ytmfpplpcodpncaa.Cur
open Go.ChangeShapes Go.WideShapes Go.ChangeAt Go.RowKit
set_option linter.unusedVariables false

theorem rround_eq (s : ByteArray) (k : Nat) (h : k ≤ 6) (hk : k < s.size) :
    wrap64 (((numL (s.data.toList.take k) : Nat) : Int) * 256 + wrap64 ((s[k].toNat : Nat) : Int)) = ((numL (s.data.toList.take (k + 1)) : Nat) : Int) := by
  have h1 := num_lt6 s k h (by omega)
  have h2 := s[k].toNat_lt
  rw [take_snoc s k hk, numL_snoc, IntWalk.wrap64_in ((s[k].toNat : Nat) : Int) (by omega), IntWalk.wrap64_in _ (by omega)]
  omega

set_option maxHeartbeats 400000 in
theorem rnum_yes (s : ByteArray) (a n k : Nat) (w : World) (hs : s.size ≤ maxLen) (h1 : a ≤ n) (h2 : n ≤ s.size) (h3 : a + k ≤ n) (h4 : 1 ≤ k) (h5 : k ≤ 7) :
    Calls Try.prog 13 #[.agg #[.string s, .int .i64 a, .int .i64 n, .bool false], .int .i64 k] w fun e w' => e = .returned (.tuple #[.int .i64 (numL ((s.data.toList.drop a).take k)), .agg #[.string s, .int .i64 ((a : Int) + k), .int .i64 n, .bool false]]) ∧ Below w.heap.size w w' := by
  go_enter Try.func13, Try.ntmps13
  go_wp2_with fail
  refine (rtext_yes _ _ _ _ _ hs h1 h2 h3).mono ?_
  rintro e w1 ⟨rfl, hb1⟩
  obtain ⟨B1, bel1⟩ : Box w1 (w.heap.size + 1) { data := #[] } 0 0 false ∧ Below w.heap.size w w1 :=
    ⟨by have := box_below (box_new _ _ _ _ _) hb1; simpa using this, bcall (balloc (balloc (Below.refl _ _) _) _) hb1⟩
  clear hb1
  have hx := number_ext s a k (by omega) h5
  have hd : (s.extract a (a + k)).data.toList = (s.data.toList.drop a).take k := by simp
  generalize s.extract a (a + k) = x at *
  have hlen : x.size = x.data.toList.length := by simp
  go_wp2_with fail
  generalize hW : w1.alloc _ = W3
  have D1 : Box W3 (w.heap.size + 1) { data := #[] } 0 0 false := by rw [← hW]; exact box_old B1 _
  have D2 : Box W3 w1.heap.size s (a + k) n false := by rw [← hW]; exact box_new _ _ _ _ _
  have bel3 : Below w.heap.size w W3 := by rw [← hW]; exact balloc bel1 _
  have hlt : w.heap.size + 1 < w1.heap.size := B1.2.2
  generalize w1.heap.size = k2 at *
  have H1 := Lib.hid hd
  clear hW B1 bel1 hd hlen
  go_loop [8, 9] (fun n i => ∃ j : Nat, j ≤ x.size ∧ i = .int .i64 j ∧ n = .int .i64 (numL (x.data.toList.take j))) (fun _ i => x.size - (intOf i).toNat)
  case atStart => exact ⟨0, Nat.zero_le _, rfl, rfl⟩
  case round =>
    obtain ⟨j, hj, rfl, rfl⟩ := hrel
    by_cases hlt : j < x.size
    · have hb := num_lt6 x j (by omega) (by omega)
      go_wp2
      go_round
      case rel => exact ⟨j + 1, by omega, by go_num, congrArg (Value.int IntKind.i64) (rround_eq x j (by omega) hlt)⟩
      case measure => simp [intOf]; omega
    · have e0 : x.data.toList.take j = (s.data.toList.drop a).take k := by rw [List.take_of_length_le (by simp; omega)]; exact H1.out
      have E := Lib.hid e0
      clear e0
      go_wp2_with fail
      obtain ⟨⟨c10, c11, c12, c13⟩, f1, l1⟩ := D1
      obtain ⟨⟨c20, c21, c22, c23⟩, f2, l2⟩ := D2
      go_region
      go_wp2
      refine bodyPost_ret (v := .tuple #[.int .i64 (numL (x.data.toList.take j)), .agg #[.string s, .int .i64 ((a : Int) + k), .int .i64 n, .bool false]]) (by simp [results, Try.results13, go_sem, c10, c11, c12, c13]) rfl ⟨by rw [E.out], ?_⟩
      exact Below.drew ((((bel3.setCell (by simp) _).setCell (by simp) _).setCell (by simp) _).setCell (by simp) _)

theorem ext_nil : (ByteArray.mk #[]).size = 0 := rfl

set_option maxHeartbeats 400000 in
theorem rnum_no (s : ByteArray) (a n : Nat) (k : Int) (b : Bool) (w : World) (hs : s.size ≤ maxLen) (h1 : a ≤ n) (h2 : n ≤ s.size) (h3 : hasB a n k b = false) (h4 : 1 ≤ k) (h5 : k ≤ 7) :
    Calls Try.prog 13 #[.agg #[.string s, .int .i64 a, .int .i64 n, .bool b], .int .i64 k] w fun e w' => e = .returned (.tuple #[.int .i64 0, .agg #[.string s, .int .i64 a, .int .i64 n, .bool true]]) ∧ Below w.heap.size w w' := by
  go_enter Try.func13, Try.ntmps13
  go_wp2_with fail
  refine (rtext_no _ _ _ _ _ _ hs h1 h2 h3).mono ?_
  rintro e w1 ⟨rfl, hb1⟩
  obtain ⟨B1, bel1⟩ : Box w1 (w.heap.size + 1) { data := #[] } 0 0 false ∧ Below w.heap.size w w1 :=
    ⟨by have := box_below (box_new _ _ _ _ _) hb1; simpa using this, bcall (balloc (balloc (Below.refl _ _) _) _) hb1⟩
  clear hb1
  have hx := ext_nil
  generalize ByteArray.mk #[] = x at *
  have H1 : x.size < 1 := by omega
  clear hx
  go_wp2_with fail
  generalize hW : w1.alloc _ = W3
  have D1 : Box W3 (w.heap.size + 1) x 0 0 false := by rw [← hW]; exact box_old B1 _
  have D2 : Box W3 w1.heap.size s a n true := by rw [← hW]; exact box_new _ _ _ _ _
  have bel3 : Below w.heap.size w W3 := by rw [← hW]; exact balloc bel1 _
  have hlt : w.heap.size + 1 < w1.heap.size := B1.2.2
  generalize w1.heap.size = k2 at *
  clear hW B1 bel1
  go_loop [8, 9] (fun n i => n = .int .i64 0 ∧ i = .int .i64 0) (fun _ i => 0)
  case atStart => exact ⟨rfl, rfl⟩
  case round =>
    obtain ⟨rfl, rfl⟩ := hrel
    have hz : decide ((0 : Int) < (x.size : Int)) = false := decide_eq_false (by omega)
    go_wp2_with fail
    obtain ⟨⟨c10, c11, c12, c13⟩, f1, l1⟩ := D1
    obtain ⟨⟨c20, c21, c22, c23⟩, f2, l2⟩ := D2
    go_region
    go_wp2
    refine bodyPost_ret (v := .tuple #[.int .i64 0, .agg #[.string s, .int .i64 a, .int .i64 n, .bool true]]) (by simp [results, Try.results13, go_sem, c10, c11, c12, c13]) rfl ⟨rfl, ?_⟩
    exact Below.drew ((((bel3.setCell (by simp) _).setCell (by simp) _).setCell (by simp) _).setCell (by simp) _)

set_option maxHeartbeats 400000 in
theorem rnum_size (s : ByteArray) (a n : Int) (k : Int) (b : Bool) (w : World) (h3 : sizeB k = false) :
    Calls Try.prog 13 #[.agg #[.string s, .int .i64 a, .int .i64 n, .bool b], .int .i64 k] w fun e w' => e = .returned (.tuple #[.int .i64 0, .agg #[.string s, .int .i64 a, .int .i64 n, .bool true]]) ∧ Below w.heap.size w w' := by
  have h4 : k < 1 ∨ 7 < k := by unfold sizeB at h3; simp at h3; omega
  clear h3
  by_cases h5 : k < 1
  · clear h4
    go_enter Try.func13, Try.ntmps13
    go_wp2_with fail
    refine (rbad_any _ _ _ _ _).mono ?_
    rintro e w1 ⟨rfl, hb1⟩
    obtain ⟨B1, bel1⟩ : Box w1 (w.heap.size + 1) { data := #[] } 0 0 false ∧ Below w.heap.size w w1 :=
      ⟨by have := box_below (box_new _ _ _ _ _) hb1; simpa using this, bcall (balloc (balloc (Below.refl _ _) _) _) hb1⟩
    clear hb1
    obtain ⟨⟨c10, c11, c12, c13⟩, f1, l1⟩ := B1
    go_wp2
    refine bodyPost_ret (v := .tuple #[.int .i64 0, .agg #[.string s, .int .i64 a, .int .i64 n, .bool true]]) (by simp [results, Try.results13, go_sem, c10, c11, c12, c13]) rfl ⟨rfl, ?_⟩
    exact ((((bel1.setCell (by simp) _).setCell (by simp) _).setCell (by simp) _).setCell (by simp) _)
  · have h6 : 7 < k := by omega
    clear h4
    go_enter Try.func13, Try.ntmps13
    go_wp2_with fail
    refine (rbad_any _ _ _ _ _).mono ?_
    rintro e w1 ⟨rfl, hb1⟩
    obtain ⟨B1, bel1⟩ : Box w1 (w.heap.size + 1) { data := #[] } 0 0 false ∧ Below w.heap.size w w1 :=
      ⟨by have := box_below (box_new _ _ _ _ _) hb1; simpa using this, bcall (balloc (balloc (Below.refl _ _) _) _) hb1⟩
    clear hb1
    obtain ⟨⟨c10, c11, c12, c13⟩, f1, l1⟩ := B1
    go_wp2
    refine bodyPost_ret (v := .tuple #[.int .i64 0, .agg #[.string s, .int .i64 a, .int .i64 n, .bool true]]) (by simp [results, Try.results13, go_sem, c10, c11, c12, c13]) rfl ⟨rfl, ?_⟩
    exact ((((bel1.setCell (by simp) _).setCell (by simp) _).setCell (by simp) _).setCell (by simp) _)
end Go.Proofs.Ytmfpplpcodpncaa.Cur
