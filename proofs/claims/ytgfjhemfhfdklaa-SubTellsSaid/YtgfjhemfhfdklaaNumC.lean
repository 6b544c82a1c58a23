/-
  What Num answers of a cursor that may be.
-/
import Derived.Test.YtgfjhemfhfdklaaNum
namespace Go.Proofs.Ytgfjhemfhfdklaa.Cur
open Go.ChangeShapes Go.WideShapes Go.ChangeAt Go.RowKit
set_option linter.unusedVariables false
set_option maxRecDepth 100000

theorem numL_nil : numL [] = 0 := rfl

/-- what Num does with a size -/
def sizeB (k : Int) : Bool := decide (1 ≤ k) && decide (k ≤ 7)

theorem number_ext (s : ByteArray) (a k : Nat) (h : a + k ≤ s.size) (hk : k ≤ 7) : (s.extract a (a + k)).size ≤ 7 := by
  simp; omega

set_option maxHeartbeats 400000 in
theorem num_yes (s : ByteArray) (a n k : Nat) (w : World) (hs : s.size ≤ maxLen) (h1 : a ≤ n) (h2 : n ≤ s.size) (h3 : a + k ≤ n) (h4 : 1 ≤ k) (h5 : k ≤ 7) :
    Calls Try.prog 40 #[.agg #[.string s, .int .i64 a, .int .i64 n, .bool false], .int .i64 k] w fun e w' => e = .returned (.tuple #[.int .i64 (numL ((s.data.toList.drop a).take k)), .agg #[.string s, .int .i64 ((a : Int) + k), .int .i64 n, .bool false]]) ∧ Below w.heap.size w w' := by
  go_enter Try.func40, Try.ntmps40
  go_wp2_with fail
  refine (text_yes _ _ _ _ _ hs h1 h2 h3).mono ?_
  rintro e w1 ⟨rfl, hb1⟩
  obtain ⟨B1, bel1⟩ : Box w1 (w.heap.size + 1) { data := #[] } 0 0 false ∧ Below w.heap.size w w1 :=
    ⟨by have := box_below (box_new _ _ _ _ _) hb1; simpa using this, bcall (balloc (balloc (Below.refl _ _) _) _) hb1⟩
  clear hb1
  go_wp2_with fail
  generalize hW : w1.alloc _ = W3
  have D1 : Box W3 (w.heap.size + 1) { data := #[] } 0 0 false := by rw [← hW]; exact box_old B1 _
  have D2 : Box W3 w1.heap.size s (a + k) n false := by rw [← hW]; exact box_new _ _ _ _ _
  have bel3 : Below w.heap.size w W3 := by rw [← hW]; exact balloc bel1 _
  have hlt : w.heap.size + 1 < w1.heap.size := B1.2.2
  generalize w1.heap.size = k2 at *
  clear hW B1 bel1
  obtain ⟨⟨c10, c11, c12, c13⟩, f1, l1⟩ := D1
  obtain ⟨⟨c20, c21, c22, c23⟩, f2, l2⟩ := D2
  have hx := number_ext s a k (by omega) h5
  go_region_with (go_at_call 43; refine (number_any _ _ hx).mono ?_; rintro e w' ⟨rfl, rfl⟩)
  all_goals
    go_wp2
    refine bodyPost_ret (v := .tuple #[.int .i64 (numL ((s.data.toList.drop a).take k)), .agg #[.string s, .int .i64 ((a : Int) + k), .int .i64 n, .bool false]]) (by simp [results, Try.results40, go_sem, c10, c11, c12, c13]) rfl ⟨rfl, ?_⟩
    exact Below.drew ((((bel3.setCell (by simp) _).setCell (by simp) _).setCell (by simp) _).setCell (by simp) _)

set_option maxHeartbeats 400000 in
theorem num_size (s : ByteArray) (a n : Int) (k : Int) (b : Bool) (w : World) (h3 : sizeB k = false) :
    Calls Try.prog 40 #[.agg #[.string s, .int .i64 a, .int .i64 n, .bool b], .int .i64 k] w fun e w' => e = .returned (.tuple #[.int .i64 0, .agg #[.string s, .int .i64 a, .int .i64 n, .bool true]]) ∧ Below w.heap.size w w' := by
  have h4 : k < 1 ∨ 7 < k := by unfold sizeB at h3; simp at h3; omega
  clear h3
  by_cases h5 : k < 1
  · clear h4
    go_enter Try.func40, Try.ntmps40
    go_wp2_with fail
    refine (spoil_any _ _ _ _ _).mono ?_
    rintro e w1 ⟨rfl, hb1⟩
    obtain ⟨B1, bel1⟩ : Box w1 (w.heap.size + 1) { data := #[] } 0 0 false ∧ Below w.heap.size w w1 :=
      ⟨by have := box_below (box_new _ _ _ _ _) hb1; simpa using this, bcall (balloc (balloc (Below.refl _ _) _) _) hb1⟩
    clear hb1
    obtain ⟨⟨c10, c11, c12, c13⟩, f1, l1⟩ := B1
    go_wp2
    refine bodyPost_ret (v := .tuple #[.int .i64 0, .agg #[.string s, .int .i64 a, .int .i64 n, .bool true]]) (by simp [results, Try.results40, go_sem, c10, c11, c12, c13]) rfl ⟨rfl, ?_⟩
    exact ((((bel1.setCell (by simp) _).setCell (by simp) _).setCell (by simp) _).setCell (by simp) _)
  · have h6 : 7 < k := by omega
    clear h4
    go_enter Try.func40, Try.ntmps40
    go_wp2_with fail
    refine (spoil_any _ _ _ _ _).mono ?_
    rintro e w1 ⟨rfl, hb1⟩
    obtain ⟨B1, bel1⟩ : Box w1 (w.heap.size + 1) { data := #[] } 0 0 false ∧ Below w.heap.size w w1 :=
      ⟨by have := box_below (box_new _ _ _ _ _) hb1; simpa using this, bcall (balloc (balloc (Below.refl _ _) _) _) hb1⟩
    clear hb1
    obtain ⟨⟨c10, c11, c12, c13⟩, f1, l1⟩ := B1
    go_wp2
    refine bodyPost_ret (v := .tuple #[.int .i64 0, .agg #[.string s, .int .i64 a, .int .i64 n, .bool true]]) (by simp [results, Try.results40, go_sem, c10, c11, c12, c13]) rfl ⟨rfl, ?_⟩
    exact ((((bel1.setCell (by simp) _).setCell (by simp) _).setCell (by simp) _).setCell (by simp) _)

set_option maxHeartbeats 400000 in
theorem num_no (s : ByteArray) (a n : Nat) (k : Int) (b : Bool) (w : World) (hs : s.size ≤ maxLen) (h1 : a ≤ n) (h2 : n ≤ s.size) (h3 : hasB a n k b = false) (h4 : 1 ≤ k) (h5 : k ≤ 7) :
    Calls Try.prog 40 #[.agg #[.string s, .int .i64 a, .int .i64 n, .bool b], .int .i64 k] w fun e w' => e = .returned (.tuple #[.int .i64 0, .agg #[.string s, .int .i64 a, .int .i64 n, .bool true]]) ∧ Below w.heap.size w w' := by
  go_enter Try.func40, Try.ntmps40
  go_wp2_with fail
  refine (text_no _ _ _ _ _ _ hs h1 h2 h3).mono ?_
  rintro e w1 ⟨rfl, hb1⟩
  obtain ⟨B1, bel1⟩ : Box w1 (w.heap.size + 1) { data := #[] } 0 0 false ∧ Below w.heap.size w w1 :=
    ⟨by have := box_below (box_new _ _ _ _ _) hb1; simpa using this, bcall (balloc (balloc (Below.refl _ _) _) _) hb1⟩
  clear hb1
  go_wp2_with fail
  generalize hW : w1.alloc _ = W3
  have D1 : Box W3 (w.heap.size + 1) { data := #[] } 0 0 false := by rw [← hW]; exact box_old B1 _
  have D2 : Box W3 w1.heap.size s a n true := by rw [← hW]; exact box_new _ _ _ _ _
  have bel3 : Below w.heap.size w W3 := by rw [← hW]; exact balloc bel1 _
  have hlt : w.heap.size + 1 < w1.heap.size := B1.2.2
  generalize w1.heap.size = k2 at *
  clear hW B1 bel1
  obtain ⟨⟨c10, c11, c12, c13⟩, f1, l1⟩ := D1
  obtain ⟨⟨c20, c21, c22, c23⟩, f2, l2⟩ := D2
  have hx : (ByteArray.mk #[]).size ≤ 7 := by decide
  go_region_with (go_at_call 43; refine (number_any _ _ hx).mono ?_; rintro e w' ⟨rfl, rfl⟩)
  all_goals
    go_wp2
    refine bodyPost_ret (v := .tuple #[.int .i64 0, .agg #[.string s, .int .i64 a, .int .i64 n, .bool true]]) (by simp [results, Try.results40, go_sem, c10, c11, c12, c13, numL_nil]) rfl ⟨rfl, ?_⟩
    exact Below.drew ((((bel3.setCell (by simp) _).setCell (by simp) _).setCell (by simp) _).setCell (by simp) _)
end Go.Proofs.Ytgfjhemfhfdklaa.Cur
