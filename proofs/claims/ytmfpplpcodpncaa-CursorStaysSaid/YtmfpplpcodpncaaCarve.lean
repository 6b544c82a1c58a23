/-
  What Carve answers of a cursor that may be.
-/
import Derived.Test.YtmfpplpcodpncaaNum
namespace Go.Proofs.Ytmfpplpcodpncaa.Cur
open Go.ChangeShapes Go.WideShapes Go.ChangeAt Go.RowKit
set_option linter.unusedVariables false

set_option maxHeartbeats 400000 in
theorem carve_yes (s : ByteArray) (a n k : Nat) (w : World) (hs : s.size ≤ maxLen) (h1 : a ≤ n) (h2 : n ≤ s.size) (h3 : a + k ≤ n) :
    Calls Try.prog 16 #[.agg #[.string s, .int .i64 a, .int .i64 n, .bool false], .int .i64 k] w fun e w' => e = .returned (.tuple #[.agg #[.string s, .int .i64 a, .int .i64 ((a : Int) + k), .bool false], .agg #[.string s, .int .i64 ((a : Int) + k), .int .i64 n, .bool false]]) ∧ Below w.heap.size w w' := by
  have hr : hasB a n k false = true := by unfold hasB; simp; omega
  have hm := hs
  unfold maxLen at hm
  have he : wrap64 ((a : Int) + (k : Int)) = (a : Int) + k := IntWalk.wrap64_in _ (by omega)
  go_enter Try.func16, Try.ntmps16
  go_wp2_with fail
  refine (has_any _ _ _ _ _ _ hs h1 h2).mono ?_
  rintro e w1 ⟨rfl, hb1⟩
  obtain ⟨B0, B1, B2, bel1⟩ : Box w1 w.heap.size s a n false ∧ Box w1 (w.heap.size + 1) { data := #[] } 0 0 false ∧ Box w1 (w.heap.size + 1 + 1) { data := #[] } 0 0 false ∧ Below w.heap.size w w1 :=
    ⟨box_below (box_old (box_old (box_new _ _ _ _ _) _) _) hb1, by have := box_below (box_old (box_new _ _ _ _ _) _) hb1; simpa using this, by have := box_below (box_new _ _ _ _ _) hb1; simpa using this, bcall (balloc (balloc (balloc (Below.refl _ _) _) _) _) hb1⟩
  clear hb1
  obtain ⟨⟨c00, c01, c02, c03⟩, f0, l0⟩ := id B0
  go_wp2_with fail
  refine (skip_any _ _ _ _ _ _).mono ?_
  rintro e w2 ⟨rfl, hb2⟩
  have C0 := box_below B0 hb2
  have C1 := box_below B1 hb2
  have C2 := box_below B2 hb2
  have bel2 := bcall bel1 hb2
  clear c00 c01 c02 c03 f0 l0 B0 B1 B2 hb2 bel1
  obtain ⟨⟨c00, c01, c02, c03⟩, f0, l0⟩ := id C0
  go_wp2_with fail
  clear c00 c01 c02 c03 f0 l0
  generalize hW : (w2.alloc _).alloc _ = W3
  have D1 : Box W3 (w.heap.size + 1) { data := #[] } 0 0 false := by rw [← hW]; exact box_old (box_old C1 _) _
  have D2 : Box W3 (w.heap.size + 1 + 1) { data := #[] } 0 0 false := by rw [← hW]; exact box_old (box_old C2 _) _
  have D3 : Box W3 w2.heap.size s (a + k) n false := by rw [← hW]; exact box_old (box_new _ _ _ _ _) _
  have D4 : Box W3 (w2.heap.size + 1) s a (a + k) false := by rw [← hW]; have := box_new (w2.alloc (.cells #[.string s, .int .i64 ((a : Int) + k), .int .i64 n, .bool false] 23)) s a (a + k) false; simpa using this
  have bel3 : Below w.heap.size w W3 := by rw [← hW]; exact balloc (balloc bel2 _) _
  have hlt : w.heap.size + 1 + 1 < w2.heap.size := C2.2.2
  generalize w2.heap.size = k2 at *
  clear hW C0 C1 C2 bel2
  obtain ⟨⟨c10, c11, c12, c13⟩, f1, l1⟩ := D1
  obtain ⟨⟨c20, c21, c22, c23⟩, f2, l2⟩ := D2
  obtain ⟨⟨c30, c31, c32, c33⟩, f3, l3⟩ := D3
  obtain ⟨⟨c40, c41, c42, c43⟩, f4, l4⟩ := D4
  go_region
  go_wp2
  refine bodyPost_ret (v := .tuple #[.agg #[.string s, .int .i64 a, .int .i64 ((a : Int) + k), .bool false], .agg #[.string s, .int .i64 ((a : Int) + k), .int .i64 n, .bool false]]) (by simp [results, Try.results16, go_sem, c10, c11, c12, c13, c20, c21, c22, c23]) rfl ⟨rfl, ?_⟩
  exact Below.drew ((((((((bel3.setCell (by simp) _).setCell (by simp) _).setCell (by simp) _).setCell (by simp) _).setCell (by simp; omega) _).setCell (by simp; omega) _).setCell (by simp; omega) _).setCell (by simp; omega) _)

set_option maxHeartbeats 400000 in
theorem carve_no (s : ByteArray) (a n : Nat) (k : Int) (b : Bool) (w : World) (hs : s.size ≤ maxLen) (h1 : a ≤ n) (h2 : n ≤ s.size) (h3 : hasB a n k b = false) :
    Calls Try.prog 16 #[.agg #[.string s, .int .i64 a, .int .i64 n, .bool b], .int .i64 k] w fun e w' => e = .returned (.tuple #[.agg #[.string { data := #[] }, .int .i64 0, .int .i64 0, .bool false], .agg #[.string s, .int .i64 a, .int .i64 n, .bool true]]) ∧ Below w.heap.size w w' := by
  go_enter Try.func16, Try.ntmps16
  go_wp2_with fail
  refine (has_any _ _ _ _ _ _ hs h1 h2).mono ?_
  rintro e w1 ⟨rfl, hb1⟩
  obtain ⟨B0, B1, B2, bel1⟩ : Box w1 w.heap.size s a n b ∧ Box w1 (w.heap.size + 1) { data := #[] } 0 0 false ∧ Box w1 (w.heap.size + 1 + 1) { data := #[] } 0 0 false ∧ Below w.heap.size w w1 :=
    ⟨box_below (box_old (box_old (box_new _ _ _ _ _) _) _) hb1, by have := box_below (box_old (box_new _ _ _ _ _) _) hb1; simpa using this, by have := box_below (box_new _ _ _ _ _) hb1; simpa using this, bcall (balloc (balloc (balloc (Below.refl _ _) _) _) _) hb1⟩
  clear hb1
  obtain ⟨⟨c00, c01, c02, c03⟩, f0, l0⟩ := id B0
  go_wp2_with fail
  refine (spoil_any _ _ _ _ _).mono ?_
  rintro e w2 ⟨rfl, hb2⟩
  clear c00 c01 c02 c03 f0 l0
  have C1 := box_below B1 hb2
  have C2 := box_below B2 hb2
  have bel2 : Below w.heap.size w w2 := bcall bel1 hb2
  clear B0 B1 B2 bel1 hb2
  obtain ⟨⟨c10, c11, c12, c13⟩, f1, l1⟩ := C1
  obtain ⟨⟨c20, c21, c22, c23⟩, f2, l2⟩ := C2
  go_wp2
  refine bodyPost_ret (v := .tuple #[.agg #[.string { data := #[] }, .int .i64 0, .int .i64 0, .bool false], .agg #[.string s, .int .i64 a, .int .i64 n, .bool true]]) (by simp [results, Try.results16, go_sem, c10, c11, c12, c13, c20, c21, c22, c23]) rfl ⟨rfl, ?_⟩
  exact ((((((((bel2.setCell (by simp) _).setCell (by simp) _).setCell (by simp) _).setCell (by simp) _).setCell (by simp; omega) _).setCell (by simp; omega) _).setCell (by simp; omega) _).setCell (by simp; omega) _)
end Go.Proofs.Ytmfpplpcodpncaa.Cur
