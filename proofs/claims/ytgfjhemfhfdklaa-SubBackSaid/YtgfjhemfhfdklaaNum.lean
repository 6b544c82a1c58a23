/-
  The number that bytes make: both functions that reckon it, and the cursor's calls that take text.
-/
import Derived.Test.YtgfjhemfhfdklaaCur
import Derived.IntWalk
import Derived.LoopTactic
namespace Go.Proofs.Ytgfjhemfhfdklaa.Cur
open Go.ChangeShapes Go.WideShapes Go.ChangeAt Go.RowKit
set_option linter.unusedVariables false
set_option maxRecDepth 100000

def numL (l : List UInt8) : Nat := l.foldl (fun n c => n * 256 + c.toNat) 0

theorem numL_snoc (l : List UInt8) (c : UInt8) : numL (l ++ [c]) = numL l * 256 + c.toNat := by
  unfold numL; rw [List.foldl_append]; rfl

theorem numL_lt (l : List UInt8) : numL l < 256 ^ l.length := by
  suffices h : ∀ (m : Nat) (l : List UInt8), l.length = m → numL l < 256 ^ m from h _ l rfl
  intro m
  induction m with
  | zero => intro l h; have := List.length_eq_zero_iff.1 h; subst this; decide
  | succ m ih =>
    intro l h
    have hl : l ≠ [] := by intro e; subst e; simp at h
    have e := List.dropLast_concat_getLast hl
    rw [← e, numL_snoc]
    have := ih l.dropLast (by simp; omega)
    have hc := (l.getLast hl).toNat_lt
    rw [Nat.pow_succ]
    omega

theorem take_snoc (s : ByteArray) (k : Nat) (h : k < s.size) : s.data.toList.take (k + 1) = s.data.toList.take k ++ [s[k]] := by
  rw [List.take_succ_eq_append_getElem (by simpa using h)]; rfl

theorem num_le (s : ByteArray) (k : Nat) (h : k ≤ 7) (hk : k ≤ s.size) : numL (s.data.toList.take k) < 72057594037927936 := by
  have := numL_lt (s.data.toList.take k)
  refine Nat.lt_of_lt_of_le this ?_
  have e : (s.data.toList.take k).length ≤ 7 := by simp; omega
  exact Nat.le_trans (Nat.pow_le_pow_right (by decide) e) (by decide)

theorem int_eq {k : IntKind} {a b : Int} (h : a = b) : Ending.returned (.int k a) = .returned (.int k b) := by rw [h]

theorem wraps_i64 (n : Int) (h₀ : 0 ≤ n) (h₁ : n < 2 ^ 63) : IntKind.i64.wrap n = n := by rw [IntKind.wrap_i64]; omega

theorem or8 (x c : Nat) (hx : x < 281474976710656) (hc : c < 256) : bits BinOp.or IntKind.i64 (wrap64 ((x : Int) * 256)) (wrap64 (c : Int)) = ((x * 256 + c : Nat) : Int) := by
  rw [IntWalk.wrap64_in _ (by omega), IntWalk.wrap64_in _ (by omega)]
  rw [bits_join .i64 63 (by decide) wraps_i64 8 _ _ (by omega) (by omega) (by omega) (by omega) (by omega) (by omega)]
  omega

theorem num_lt6 (s : ByteArray) (k : Nat) (h : k ≤ 6) (hk : k ≤ s.size) : numL (s.data.toList.take k) < 281474976710656 := by
  have := numL_lt (s.data.toList.take k)
  refine Nat.lt_of_lt_of_le this ?_
  have e : (s.data.toList.take k).length ≤ 6 := by simp; omega
  exact Nat.le_trans (Nat.pow_le_pow_right (by decide) e) (by decide)

theorem round_eq (s : ByteArray) (k : Nat) (h : k ≤ 6) (hk : k < s.size) :
    bits BinOp.or IntKind.i64 (wrap64 ((numL (s.data.toList.take k) : Nat) * 256)) (wrap64 (s[k].toNat : Nat)) = ((numL (s.data.toList.take (k + 1)) : Nat) : Int) := by
  rw [take_snoc s k hk, numL_snoc]
  exact or8 _ _ (num_lt6 s k h (by omega)) s[k].toNat_lt

set_option maxHeartbeats 400000 in
theorem number_any (s : ByteArray) (w : World) (hs : s.size ≤ 7) :
    Calls Try.prog 43 #[.string s] w fun e w' => e = .returned (.int .i64 (numL s.data.toList)) ∧ w = w' := by
  go_enter Try.func43, Try.ntmps43
  go_wp2
  go_loop [3, 4] (fun n i => ∃ k : Nat, k ≤ s.size ∧ i = .int .i64 k ∧ n = .int .i64 (numL (s.data.toList.take k))) (fun _ i => s.size - (intOf i).toNat)
  case atStart => exact ⟨0, Nat.zero_le _, rfl, rfl⟩
  case round =>
    obtain ⟨k, hk, rfl, rfl⟩ := hrel
    by_cases hlt : k < s.size
    · go_wp2
      go_round
      case rel => exact ⟨k + 1, by omega, by go_num, congrArg (Value.int IntKind.i64) (round_eq s k (by omega) hlt)⟩
      case measure => simp [intOf]; omega
    · go_wp2
      go_ret
      exact ⟨int_eq (by rw [List.take_of_length_le (by simp; omega)]), rfl⟩

set_option maxHeartbeats 400000 in
theorem text_yes (s : ByteArray) (a n k : Nat) (w : World) (hs : s.size ≤ maxLen) (h1 : a ≤ n) (h2 : n ≤ s.size) (h3 : a + k ≤ n) :
    Calls Try.prog 41 #[.agg #[.string s, .int .i64 a, .int .i64 n, .bool false], .int .i64 k] w fun e w' => e = .returned (.tuple #[.string (s.extract a (a + k)), .agg #[.string s, .int .i64 ((a : Int) + k), .int .i64 n, .bool false]]) ∧ Below w.heap.size w w' := by
  have hr : hasB a n k false = true := by unfold hasB; simp; omega
  have hm := hs
  unfold maxLen at hm
  have he : wrap64 ((a : Int) + (k : Int)) = (a : Int) + k := IntWalk.wrap64_in _ (by omega)
  have hsl : ∀ wx, Sem.run Try.prog (Instr.slice 9 (Value.string s) (some (Value.int IntKind.i64 (a : Int))) (some (Value.int IntKind.i64 ((a : Int) + (k : Int)))) none) wx = .ok (.string (s.extract a (a + k))) wx := by
    intro wx
    have := run_slice_string (P := Try.prog) wx 9 s .i64 .i64 (a : Int) ((a : Int) + (k : Int)) Try.underlying9 (by omega) (by omega) (by omega)
    rw [show ((a : Int) + (k : Int)).toNat = a + k from by omega, show (a : Int).toNat = a from by omega] at this
    exact this
  go_enter Try.func41, Try.ntmps41
  go_wp2_with fail
  refine (has_any _ _ _ _ _ _ hs h1 h2).mono ?_
  rintro e w1 ⟨rfl, hb1⟩
  obtain ⟨B0, B1, bel1⟩ : Box w1 w.heap.size s a n false ∧ Box w1 (w.heap.size + 1) { data := #[] } 0 0 false ∧ Below w.heap.size w w1 :=
    ⟨box_below (box_old (box_new _ _ _ _ _) _) hb1, by have := box_below (box_new _ _ _ _ _) hb1; simpa using this, bcall (balloc (balloc (Below.refl _ _) _) _) hb1⟩
  clear hb1
  obtain ⟨⟨c00, c01, c02, c03⟩, f0, l0⟩ := id B0
  go_wp2_with fail
  refine (skip_any _ _ _ _ _ _).mono ?_
  rintro e w2 ⟨rfl, hb2⟩
  clear c00 c01 c02 c03 f0 l0
  go_wp2_with fail
  generalize hW : w2.alloc _ = W3
  have C0 : Box W3 w.heap.size s a n false := by rw [← hW]; exact box_old (box_below B0 hb2) _
  have C1 : Box W3 (w.heap.size + 1) { data := #[] } 0 0 false := by rw [← hW]; exact box_old (box_below B1 hb2) _
  have C2 : Box W3 w2.heap.size s (a + k) n false := by rw [← hW]; exact box_new _ _ _ _ _
  have bel3 : Below w.heap.size w W3 := by rw [← hW]; exact balloc (bcall bel1 hb2) _
  generalize w2.heap.size = k2 at *
  clear hW B0 B1 hb2 bel1
  obtain ⟨⟨c00, c01, c02, c03⟩, f0, l0⟩ := C0
  obtain ⟨⟨c10, c11, c12, c13⟩, f1, l1⟩ := C1
  obtain ⟨⟨c20, c21, c22, c23⟩, f2, l2⟩ := C2
  go_region
  go_wp2
  refine bodyPost_ret (v := .tuple #[.string (s.extract a (a + k)), .agg #[.string s, .int .i64 ((a : Int) + k), .int .i64 n, .bool false]]) (by simp [results, Try.results41, go_sem, c10, c11, c12, c13]) rfl ⟨rfl, ?_⟩
  exact Below.drew ((((bel3.setCell (by simp) _).setCell (by simp) _).setCell (by simp) _).setCell (by simp) _)

set_option maxHeartbeats 400000 in
theorem text_no (s : ByteArray) (a n : Nat) (k : Int) (b : Bool) (w : World) (hs : s.size ≤ maxLen) (h1 : a ≤ n) (h2 : n ≤ s.size) (h3 : hasB a n k b = false) :
    Calls Try.prog 41 #[.agg #[.string s, .int .i64 a, .int .i64 n, .bool b], .int .i64 k] w fun e w' => e = .returned (.tuple #[.string { data := #[] }, .agg #[.string s, .int .i64 a, .int .i64 n, .bool true]]) ∧ Below w.heap.size w w' := by
  go_enter Try.func41, Try.ntmps41
  go_wp2_with fail
  refine (has_any _ _ _ _ _ _ hs h1 h2).mono ?_
  rintro e w1 ⟨rfl, hb1⟩
  obtain ⟨B0, B1, bel1⟩ : Box w1 w.heap.size s a n b ∧ Box w1 (w.heap.size + 1) { data := #[] } 0 0 false ∧ Below w.heap.size w w1 :=
    ⟨box_below (box_old (box_new _ _ _ _ _) _) hb1, by have := box_below (box_new _ _ _ _ _) hb1; simpa using this, bcall (balloc (balloc (Below.refl _ _) _) _) hb1⟩
  clear hb1
  obtain ⟨⟨c00, c01, c02, c03⟩, f0, l0⟩ := id B0
  go_wp2_with fail
  refine (spoil_any _ _ _ _ _).mono ?_
  rintro e w2 ⟨rfl, hb2⟩
  clear c00 c01 c02 c03 f0 l0
  have C1 : Box w2 (w.heap.size + 1) { data := #[] } 0 0 false := box_below B1 hb2
  have bel2 : Below w.heap.size w w2 := bcall bel1 hb2
  clear B0 B1 bel1 hb2
  obtain ⟨⟨c10, c11, c12, c13⟩, f1, l1⟩ := C1
  go_wp2
  refine bodyPost_ret (v := .tuple #[.string { data := #[] }, .agg #[.string s, .int .i64 a, .int .i64 n, .bool true]]) (by simp [results, Try.results41, go_sem, c10, c11, c12, c13]) rfl ⟨rfl, ?_⟩
  exact ((((bel2.setCell (by simp) _).setCell (by simp) _).setCell (by simp) _).setCell (by simp) _)

end Go.Proofs.Ytgfjhemfhfdklaa.Cur
