/-
  Contracts of the cursor's small functions: what each answers of any cursor, and that nothing that was there is changed.
  The number that bytes make: both functions that reckon it, and the cursor's calls that take text.
  What Num answers of a cursor that may be.
-/
import Derived.Test.YteecialdkfaejaaDoorRows
import Derived.WalkKit
import Derived.ProofKit
import Derived.OpenShut
import Derived.ShutString
import Derived.Below
import Derived.Lib.Hide
import Derived.WalkLawsBesides
import Derived.Outline
import Derived.RegionTactic
import Derived.Deep.RegionWith
import Derived.StillTailTactics
import Derived.Deep.RegionHeld3
import Derived.IntWalk
import Derived.LoopTactic
namespace Go.Proofs.YteecialdkfaejaaDoor.Cur
open Go.ChangeShapes Go.WideShapes Go.ChangeAt Go.RowKit
set_option linter.unusedVariables false
set_option maxRecDepth 100000

def rightB (s : ByteArray) (a n : Int) : Bool := decide (0 ≤ a) && decide (a ≤ n) && decide (n ≤ s.size)

theorem bool_eq {a b : Bool} (h : a = b) : Ending.returned (.bool a) = .returned (.bool b) := by rw [h]

theorem new_any (s : ByteArray) (w : World) (hs : s.size ≤ maxLen) :
    Calls Tryd.prog 73 #[.string s] w fun e w' => e = .returned (.agg #[.string s, .int .i64 0, .int .i64 s.size, .bool false]) ∧ Below w.heap.size w w' := by
  unfold maxLen at hs
  go_enter Tryd.func73, Tryd.ntmps73
  go_wp2
  exact bodyPost_ret (v := .agg #[.string s, .int .i64 0, .int .i64 s.size, .bool false]) (by simp [results, Tryd.results73, go_sem]) rfl ⟨rfl, (Below.refl _ _).alloc (Nat.le_refl _) _⟩

theorem left_ok (s : ByteArray) (a n : Int) (w : World) :
    Calls Tryd.prog 83 #[.agg #[.string s, .int .i64 a, .int .i64 n, .bool false]] w fun e w' => e = .returned (.int .i64 (wrap64 (n - a))) ∧ Below w.heap.size w w' := by
  go_enter Tryd.func83, Tryd.ntmps83
  go_wp2
  go_ret
  exact ⟨rfl, (Below.refl _ _).alloc (Nat.le_refl _) _⟩

theorem left_bad (s : ByteArray) (a n : Int) (w : World) :
    Calls Tryd.prog 83 #[.agg #[.string s, .int .i64 a, .int .i64 n, .bool true]] w fun e w' => e = .returned (.int .i64 0) ∧ Below w.heap.size w w' := by
  go_enter Tryd.func83, Tryd.ntmps83
  go_wp2
  go_ret
  exact ⟨rfl, (Below.refl _ _).alloc (Nat.le_refl _) _⟩

theorem spoil_any (s : ByteArray) (a n : Int) (b : Bool) (w : World) :
    Calls Tryd.prog 97 #[.agg #[.string s, .int .i64 a, .int .i64 n, .bool b]] w fun e w' => e = .returned (.agg #[.string s, .int .i64 a, .int .i64 n, .bool true]) ∧ Below w.heap.size w w' := by
  go_enter Tryd.func97, Tryd.ntmps97
  go_wp2
  exact bodyPost_ret (v := .agg #[.string s, .int .i64 a, .int .i64 n, .bool true]) (by simp [results, Tryd.results97, go_sem]) rfl ⟨rfl, ((Below.refl _ _).alloc (Nat.le_refl _) _).alloc (by simp) _⟩

theorem skip_any (s : ByteArray) (a n k : Int) (b : Bool) (w : World) :
    Calls Tryd.prog 100 #[.agg #[.string s, .int .i64 a, .int .i64 n, .bool b], .int .i64 k] w fun e w' => e = .returned (.agg #[.string s, .int .i64 (wrap64 (a + k)), .int .i64 n, .bool b]) ∧ Below w.heap.size w w' := by
  go_enter Tryd.func100, Tryd.ntmps100
  go_wp2
  exact bodyPost_ret (v := .agg #[.string s, .int .i64 (wrap64 (a + k)), .int .i64 n, .bool b]) (by simp [results, Tryd.results100, go_sem]) rfl ⟨rfl, ((Below.refl _ _).alloc (Nat.le_refl _) _).alloc (by simp) _⟩

theorem right_any (s : ByteArray) (a n : Int) (b : Bool) (w : World) (hs : s.size ≤ maxLen) :
    Calls Tryd.prog 101 #[.agg #[.string s, .int .i64 a, .int .i64 n, .bool b]] w fun e w' => e = .returned (.bool (rightB s a n)) ∧ Below w.heap.size w w' := by
  unfold maxLen at hs
  by_cases h1 : 0 ≤ a
  · by_cases h2 : a ≤ n
    · by_cases h3 : n ≤ s.size
      all_goals
        go_enter Tryd.func101, Tryd.ntmps101
        go_wp2
        go_ret
        exact ⟨bool_eq (by unfold rightB; simp; omega), (Below.refl _ _).alloc (Nat.le_refl _) _⟩
    · go_enter Tryd.func101, Tryd.ntmps101
      go_wp2
      go_ret
      exact ⟨bool_eq (by unfold rightB; simp; omega), (Below.refl _ _).alloc (Nat.le_refl _) _⟩
  · go_enter Tryd.func101, Tryd.ntmps101
    go_wp2
    go_ret
    exact ⟨bool_eq (by unfold rightB; simp; omega), (Below.refl _ _).alloc (Nat.le_refl _) _⟩

theorem bcell {W w1 : World} (hb : Below W.heap.size W w1) : (∀ b o, b < W.heap.size → w1.cell? ⟨b, o, none⟩ = W.cell? ⟨b, o, none⟩) ∧ (∀ b o, b < W.heap.size → w1.frozen? ⟨b, o, none⟩ = W.frozen? ⟨b, o, none⟩) :=
  ⟨fun b o h => hb.cell (p := ⟨b, o, none⟩) h, fun b o h => hb.frozen (p := ⟨b, o, none⟩) h⟩

theorem bcall {w W w1 : World} (h : Below w.heap.size w W) (hb : Below W.heap.size W w1) : Below w.heap.size w w1 := h.trans (hb.mono h.size)

theorem balloc {w W : World} (h : Below w.heap.size w W) (o : Obj) : Below w.heap.size w (W.alloc o) := h.alloc h.size o

/-- a cursor lies in block k -/
def Box (w : World) (k : Nat) (s : ByteArray) (a n : Int) (b : Bool) : Prop :=
  (w.cell? ⟨k, 0, none⟩ = some (.string s) ∧ w.cell? ⟨k, 1, none⟩ = some (.int .i64 a) ∧ w.cell? ⟨k, 2, none⟩ = some (.int .i64 n) ∧ w.cell? ⟨k, 3, none⟩ = some (.bool b)) ∧ (∀ o, w.frozen? ⟨k, o, none⟩ = false) ∧ k < w.heap.size

theorem box_below {W w1 : World} {k : Nat} {s : ByteArray} {a n : Int} {b : Bool} (h : Box W k s a n b) (hb : Below W.heap.size W w1) : Box w1 k s a n b := by
  obtain ⟨⟨h0, h1, h2, h3⟩, hf, hl⟩ := h
  obtain ⟨hc, hfz⟩ := bcell hb
  refine ⟨⟨?_, ?_, ?_, ?_⟩, fun o => ?_, Nat.lt_of_lt_of_le hl hb.size⟩
  · rw [hc _ _ hl]; exact h0
  · rw [hc _ _ hl]; exact h1
  · rw [hc _ _ hl]; exact h2
  · rw [hc _ _ hl]; exact h3
  · rw [hfz _ _ hl]; exact hf o

theorem box_old {W : World} {k : Nat} {s : ByteArray} {a n : Int} {b : Bool} (h : Box W k s a n b) (o : Obj) : Box (W.alloc o) k s a n b :=
  box_below h ((Below.refl _ _).alloc (Nat.le_refl _) _)

theorem box_drew {W : World} {k : Nat} {s : ByteArray} {a n : Int} {b : Bool} (h : Box W k s a n b) : Box W.drew k s a n b :=
  box_below h (Below.refl _ _).drew

theorem box_new (w : World) (s : ByteArray) (a n : Int) (b : Bool) : Box (w.alloc (.cells #[.string s, .int .i64 a, .int .i64 n, .bool b] 105)) w.heap.size s a n b := by
  refine ⟨⟨?_, ?_, ?_, ?_⟩, fun o => ?_, ?_⟩ <;> simp [go_sem]

/-- may n bytes be taken? of a cursor that may be -/
def hasB (a n k : Int) (b : Bool) : Bool := !b && decide (0 ≤ k) && decide (k ≤ n - a)

theorem has_any (s : ByteArray) (a n : Nat) (k : Int) (b : Bool) (w : World) (hs : s.size ≤ maxLen) (h1 : a ≤ n) (h2 : n ≤ s.size) :
    Calls Tryd.prog 99 #[.agg #[.string s, .int .i64 a, .int .i64 n, .bool b], .int .i64 k] w fun e w' => e = .returned (.bool (hasB a n k b)) ∧ Below w.heap.size w w' := by
  have hr : rightB s a n = true := by unfold rightB; simp; omega
  have hm := hs
  unfold maxLen at hm
  have hw : wrap64 ((n : Int) - (a : Int)) = (n : Int) - (a : Int) := IntWalk.wrap64_in _ (by omega)
  cases b
  · by_cases h3 : 0 ≤ k
    · by_cases h4 : k ≤ (n : Int) - a
      all_goals
        go_enter Tryd.func99, Tryd.ntmps99
        go_wp2_with fail
        refine (right_any _ _ _ _ _ hs).mono ?_
        rintro e w1 ⟨rfl, hb1⟩
        obtain ⟨hc1, hf1⟩ := bcell hb1
        go_wp2_with fail
        refine (left_ok _ _ _ _).mono ?_
        rintro e w2 ⟨rfl, hb2⟩
        go_wp2_with fail
        go_ret
        refine ⟨bool_eq (by unfold hasB; simp; omega), ?_⟩
        exact bcall (bcall (balloc (Below.refl _ _) _) hb1) hb2
    · go_enter Tryd.func99, Tryd.ntmps99
      go_wp2_with fail
      refine (right_any _ _ _ _ _ hs).mono ?_
      rintro e w1 ⟨rfl, hb1⟩
      go_wp2_with fail
      go_ret
      refine ⟨bool_eq (by unfold hasB; simp; omega), ?_⟩
      exact bcall (balloc (Below.refl _ _) _) hb1
  · go_enter Tryd.func99, Tryd.ntmps99
    go_wp2_with fail
    go_ret
    exact ⟨bool_eq (by unfold hasB; simp), (Below.refl _ _).alloc (Nat.le_refl _) _⟩

end Go.Proofs.YteecialdkfaejaaDoor.Cur
namespace Go.Proofs.YteecialdkfaejaaDoor.Cur
open Go.ChangeShapes Go.WideShapes Go.ChangeAt Go.RowKit
set_option linter.unusedVariables false
set_option maxRecDepth 100000

def numL (l : List UInt8) : Nat := l.foldl (fun n c => n * 256 + c.toNat) 0

theorem numL_snoc (l : List UInt8) (c : UInt8) : numL (l ++ [c]) = numL l * 256 + c.toNat := by
  unfold numL; rw [List.foldl_append]; rfl

theorem numL_lt (l : List UInt8) : numL l < 256 ^ l.length := by
  suffices h : ∀ (m : Nat) (l : List UInt8), l.length = m → numL l < 256 ^ m from h _ l rfl
  intro m
  induction m with
  | zero => intro l h; have := List.length_eq_zero_iff.1 h; subst this; decide
  | succ m ih =>
    intro l h
    have hl : l ≠ [] := by intro e; subst e; simp at h
    have e := List.dropLast_concat_getLast hl
    rw [← e, numL_snoc]
    have := ih l.dropLast (by simp; omega)
    have hc := (l.getLast hl).toNat_lt
    rw [Nat.pow_succ]
    omega

theorem take_snoc (s : ByteArray) (k : Nat) (h : k < s.size) : s.data.toList.take (k + 1) = s.data.toList.take k ++ [s[k]] := by
  rw [List.take_succ_eq_append_getElem (by simpa using h)]; rfl

theorem num_le (s : ByteArray) (k : Nat) (h : k ≤ 7) (hk : k ≤ s.size) : numL (s.data.toList.take k) < 72057594037927936 := by
  have := numL_lt (s.data.toList.take k)
  refine Nat.lt_of_lt_of_le this ?_
  have e : (s.data.toList.take k).length ≤ 7 := by simp; omega
  exact Nat.le_trans (Nat.pow_le_pow_right (by decide) e) (by decide)

theorem int_eq {k : IntKind} {a b : Int} (h : a = b) : Ending.returned (.int k a) = .returned (.int k b) := by rw [h]

theorem wraps_i64 (n : Int) (h₀ : 0 ≤ n) (h₁ : n < 2 ^ 63) : IntKind.i64.wrap n = n := by rw [IntKind.wrap_i64]; omega

theorem or8 (x c : Nat) (hx : x < 281474976710656) (hc : c < 256) : bits BinOp.or IntKind.i64 (wrap64 ((x : Int) * 256)) (wrap64 (c : Int)) = ((x * 256 + c : Nat) : Int) := by
  rw [IntWalk.wrap64_in _ (by omega), IntWalk.wrap64_in _ (by omega)]
  rw [bits_join .i64 63 (by decide) wraps_i64 8 _ _ (by omega) (by omega) (by omega) (by omega) (by omega) (by omega)]
  omega

theorem num_lt6 (s : ByteArray) (k : Nat) (h : k ≤ 6) (hk : k ≤ s.size) : numL (s.data.toList.take k) < 281474976710656 := by
  have := numL_lt (s.data.toList.take k)
  refine Nat.lt_of_lt_of_le this ?_
  have e : (s.data.toList.take k).length ≤ 6 := by simp; omega
  exact Nat.le_trans (Nat.pow_le_pow_right (by decide) e) (by decide)

theorem round_eq (s : ByteArray) (k : Nat) (h : k ≤ 6) (hk : k < s.size) :
    bits BinOp.or IntKind.i64 (wrap64 ((numL (s.data.toList.take k) : Nat) * 256)) (wrap64 (s[k].toNat : Nat)) = ((numL (s.data.toList.take (k + 1)) : Nat) : Int) := by
  rw [take_snoc s k hk, numL_snoc]
  exact or8 _ _ (num_lt6 s k h (by omega)) s[k].toNat_lt

set_option maxHeartbeats 400000 in
theorem number_any (s : ByteArray) (w : World) (hs : s.size ≤ 7) :
    Calls Tryd.prog 98 #[.string s] w fun e w' => e = .returned (.int .i64 (numL s.data.toList)) ∧ w = w' := by
  go_enter Tryd.func98, Tryd.ntmps98
  go_wp2
  go_loop [3, 4] (fun n i => ∃ k : Nat, k ≤ s.size ∧ i = .int .i64 k ∧ n = .int .i64 (numL (s.data.toList.take k))) (fun _ i => s.size - (intOf i).toNat)
  case atStart => exact ⟨0, Nat.zero_le _, rfl, rfl⟩
  case round =>
    obtain ⟨k, hk, rfl, rfl⟩ := hrel
    by_cases hlt : k < s.size
    · go_wp2
      go_round
      case rel => exact ⟨k + 1, by omega, by go_num, congrArg (Value.int IntKind.i64) (round_eq s k (by omega) hlt)⟩
      case measure => simp [intOf]; omega
    · go_wp2
      go_ret
      exact ⟨int_eq (by rw [List.take_of_length_le (by simp; omega)]), rfl⟩

set_option maxHeartbeats 400000 in
theorem text_yes (s : ByteArray) (a n k : Nat) (w : World) (hs : s.size ≤ maxLen) (h1 : a ≤ n) (h2 : n ≤ s.size) (h3 : a + k ≤ n) :
    Calls Tryd.prog 95 #[.agg #[.string s, .int .i64 a, .int .i64 n, .bool false], .int .i64 k] w fun e w' => e = .returned (.tuple #[.string (s.extract a (a + k)), .agg #[.string s, .int .i64 ((a : Int) + k), .int .i64 n, .bool false]]) ∧ Below w.heap.size w w' := by
  have hr : hasB a n k false = true := by unfold hasB; simp; omega
  have hm := hs
  unfold maxLen at hm
  have he : wrap64 ((a : Int) + (k : Int)) = (a : Int) + k := IntWalk.wrap64_in _ (by omega)
  have hsl : ∀ wx, Sem.run Tryd.prog (Instr.slice 9 (Value.string s) (some (Value.int IntKind.i64 (a : Int))) (some (Value.int IntKind.i64 ((a : Int) + (k : Int)))) none) wx = .ok (.string (s.extract a (a + k))) wx := by
    intro wx
    have := run_slice_string (P := Tryd.prog) wx 9 s .i64 .i64 (a : Int) ((a : Int) + (k : Int)) Tryd.underlying9 (by omega) (by omega) (by omega)
    rw [show ((a : Int) + (k : Int)).toNat = a + k from by omega, show (a : Int).toNat = a from by omega] at this
    exact this
  go_enter Tryd.func95, Tryd.ntmps95
  go_wp2_with fail
  refine (has_any _ _ _ _ _ _ hs h1 h2).mono ?_
  rintro e w1 ⟨rfl, hb1⟩
  obtain ⟨B0, B1, bel1⟩ : Box w1 w.heap.size s a n false ∧ Box w1 (w.heap.size + 1) { data := #[] } 0 0 false ∧ Below w.heap.size w w1 :=
    ⟨box_below (box_old (box_new _ _ _ _ _) _) hb1, by have := box_below (box_new _ _ _ _ _) hb1; simpa using this, bcall (balloc (balloc (Below.refl _ _) _) _) hb1⟩
  clear hb1
  obtain ⟨⟨c00, c01, c02, c03⟩, f0, l0⟩ := id B0
  go_wp2_with fail
  refine (skip_any _ _ _ _ _ _).mono ?_
  rintro e w2 ⟨rfl, hb2⟩
  clear c00 c01 c02 c03 f0 l0
  go_wp2_with fail
  generalize hW : w2.alloc _ = W3
  have C0 : Box W3 w.heap.size s a n false := by rw [← hW]; exact box_old (box_below B0 hb2) _
  have C1 : Box W3 (w.heap.size + 1) { data := #[] } 0 0 false := by rw [← hW]; exact box_old (box_below B1 hb2) _
  have C2 : Box W3 w2.heap.size s (a + k) n false := by rw [← hW]; exact box_new _ _ _ _ _
  have bel3 : Below w.heap.size w W3 := by rw [← hW]; exact balloc (bcall bel1 hb2) _
  generalize w2.heap.size = k2 at *
  clear hW B0 B1 hb2 bel1
  obtain ⟨⟨c00, c01, c02, c03⟩, f0, l0⟩ := C0
  obtain ⟨⟨c10, c11, c12, c13⟩, f1, l1⟩ := C1
  obtain ⟨⟨c20, c21, c22, c23⟩, f2, l2⟩ := C2
  go_region
  go_wp2
  refine bodyPost_ret (v := .tuple #[.string (s.extract a (a + k)), .agg #[.string s, .int .i64 ((a : Int) + k), .int .i64 n, .bool false]]) (by simp [results, Tryd.results95, go_sem, c10, c11, c12, c13]) rfl ⟨rfl, ?_⟩
  exact Below.drew ((((bel3.setCell (by simp) _).setCell (by simp) _).setCell (by simp) _).setCell (by simp) _)

set_option maxHeartbeats 400000 in
theorem text_no (s : ByteArray) (a n : Nat) (k : Int) (b : Bool) (w : World) (hs : s.size ≤ maxLen) (h1 : a ≤ n) (h2 : n ≤ s.size) (h3 : hasB a n k b = false) :
    Calls Tryd.prog 95 #[.agg #[.string s, .int .i64 a, .int .i64 n, .bool b], .int .i64 k] w fun e w' => e = .returned (.tuple #[.string { data := #[] }, .agg #[.string s, .int .i64 a, .int .i64 n, .bool true]]) ∧ Below w.heap.size w w' := by
  go_enter Tryd.func95, Tryd.ntmps95
  go_wp2_with fail
  refine (has_any _ _ _ _ _ _ hs h1 h2).mono ?_
  rintro e w1 ⟨rfl, hb1⟩
  obtain ⟨B0, B1, bel1⟩ : Box w1 w.heap.size s a n b ∧ Box w1 (w.heap.size + 1) { data := #[] } 0 0 false ∧ Below w.heap.size w w1 :=
    ⟨box_below (box_old (box_new _ _ _ _ _) _) hb1, by have := box_below (box_new _ _ _ _ _) hb1; simpa using this, bcall (balloc (balloc (Below.refl _ _) _) _) hb1⟩
  clear hb1
  obtain ⟨⟨c00, c01, c02, c03⟩, f0, l0⟩ := id B0
  go_wp2_with fail
  refine (spoil_any _ _ _ _ _).mono ?_
  rintro e w2 ⟨rfl, hb2⟩
  clear c00 c01 c02 c03 f0 l0
  have C1 : Box w2 (w.heap.size + 1) { data := #[] } 0 0 false := box_below B1 hb2
  have bel2 : Below w.heap.size w w2 := bcall bel1 hb2
  clear B0 B1 bel1 hb2
  obtain ⟨⟨c10, c11, c12, c13⟩, f1, l1⟩ := C1
  go_wp2
  refine bodyPost_ret (v := .tuple #[.string { data := #[] }, .agg #[.string s, .int .i64 a, .int .i64 n, .bool true]]) (by simp [results, Tryd.results95, go_sem, c10, c11, c12, c13]) rfl ⟨rfl, ?_⟩
  exact ((((bel2.setCell (by simp) _).setCell (by simp) _).setCell (by simp) _).setCell (by simp) _)

end Go.Proofs.YteecialdkfaejaaDoor.Cur
namespace Go.Proofs.YteecialdkfaejaaDoor.Cur
open Go.ChangeShapes Go.WideShapes Go.ChangeAt Go.RowKit
set_option linter.unusedVariables false
set_option maxRecDepth 100000

theorem numL_nil : numL [] = 0 := rfl

/-- what Num does with a size -/
def sizeB (k : Int) : Bool := decide (1 ≤ k) && decide (k ≤ 7)

theorem number_ext (s : ByteArray) (a k : Nat) (h : a + k ≤ s.size) (hk : k ≤ 7) : (s.extract a (a + k)).size ≤ 7 := by
  simp; omega

set_option maxHeartbeats 400000 in
theorem num_yes (s : ByteArray) (a n k : Nat) (w : World) (hs : s.size ≤ maxLen) (h1 : a ≤ n) (h2 : n ≤ s.size) (h3 : a + k ≤ n) (h4 : 1 ≤ k) (h5 : k ≤ 7) :
    Calls Tryd.prog 94 #[.agg #[.string s, .int .i64 a, .int .i64 n, .bool false], .int .i64 k] w fun e w' => e = .returned (.tuple #[.int .i64 (numL ((s.data.toList.drop a).take k)), .agg #[.string s, .int .i64 ((a : Int) + k), .int .i64 n, .bool false]]) ∧ Below w.heap.size w w' := by
  go_enter Tryd.func94, Tryd.ntmps94
  go_wp2_with fail
  refine (text_yes _ _ _ _ _ hs h1 h2 h3).mono ?_
  rintro e w1 ⟨rfl, hb1⟩
  obtain ⟨B1, bel1⟩ : Box w1 (w.heap.size + 1) { data := #[] } 0 0 false ∧ Below w.heap.size w w1 :=
    ⟨by have := box_below (box_new _ _ _ _ _) hb1; simpa using this, bcall (balloc (balloc (Below.refl _ _) _) _) hb1⟩
  clear hb1
  go_wp2_with fail
  generalize hW : w1.alloc _ = W3
  have D1 : Box W3 (w.heap.size + 1) { data := #[] } 0 0 false := by rw [← hW]; exact box_old B1 _
  have D2 : Box W3 w1.heap.size s (a + k) n false := by rw [← hW]; exact box_new _ _ _ _ _
  have bel3 : Below w.heap.size w W3 := by rw [← hW]; exact balloc bel1 _
  have hlt : w.heap.size + 1 < w1.heap.size := B1.2.2
  generalize w1.heap.size = k2 at *
  clear hW B1 bel1
  obtain ⟨⟨c10, c11, c12, c13⟩, f1, l1⟩ := D1
  obtain ⟨⟨c20, c21, c22, c23⟩, f2, l2⟩ := D2
  have hx := number_ext s a k (by omega) h5
  go_region_with (go_at_call 98; refine (number_any _ _ hx).mono ?_; rintro e w' ⟨rfl, rfl⟩)
  all_goals
    go_wp2
    refine bodyPost_ret (v := .tuple #[.int .i64 (numL ((s.data.toList.drop a).take k)), .agg #[.string s, .int .i64 ((a : Int) + k), .int .i64 n, .bool false]]) (by simp [results, Tryd.results94, go_sem, c10, c11, c12, c13]) rfl ⟨rfl, ?_⟩
    exact Below.drew ((((bel3.setCell (by simp) _).setCell (by simp) _).setCell (by simp) _).setCell (by simp) _)

set_option maxHeartbeats 400000 in
theorem num_size (s : ByteArray) (a n : Int) (k : Int) (b : Bool) (w : World) (h3 : sizeB k = false) :
    Calls Tryd.prog 94 #[.agg #[.string s, .int .i64 a, .int .i64 n, .bool b], .int .i64 k] w fun e w' => e = .returned (.tuple #[.int .i64 0, .agg #[.string s, .int .i64 a, .int .i64 n, .bool true]]) ∧ Below w.heap.size w w' := by
  have h4 : k < 1 ∨ 7 < k := by unfold sizeB at h3; simp at h3; omega
  clear h3
  by_cases h5 : k < 1
  · clear h4
    go_enter Tryd.func94, Tryd.ntmps94
    go_wp2_with fail
    refine (spoil_any _ _ _ _ _).mono ?_
    rintro e w1 ⟨rfl, hb1⟩
    obtain ⟨B1, bel1⟩ : Box w1 (w.heap.size + 1) { data := #[] } 0 0 false ∧ Below w.heap.size w w1 :=
      ⟨by have := box_below (box_new _ _ _ _ _) hb1; simpa using this, bcall (balloc (balloc (Below.refl _ _) _) _) hb1⟩
    clear hb1
    obtain ⟨⟨c10, c11, c12, c13⟩, f1, l1⟩ := B1
    go_wp2
    refine bodyPost_ret (v := .tuple #[.int .i64 0, .agg #[.string s, .int .i64 a, .int .i64 n, .bool true]]) (by simp [results, Tryd.results94, go_sem, c10, c11, c12, c13]) rfl ⟨rfl, ?_⟩
    exact ((((bel1.setCell (by simp) _).setCell (by simp) _).setCell (by simp) _).setCell (by simp) _)
  · have h6 : 7 < k := by omega
    clear h4
    go_enter Tryd.func94, Tryd.ntmps94
    go_wp2_with fail
    refine (spoil_any _ _ _ _ _).mono ?_
    rintro e w1 ⟨rfl, hb1⟩
    obtain ⟨B1, bel1⟩ : Box w1 (w.heap.size + 1) { data := #[] } 0 0 false ∧ Below w.heap.size w w1 :=
      ⟨by have := box_below (box_new _ _ _ _ _) hb1; simpa using this, bcall (balloc (balloc (Below.refl _ _) _) _) hb1⟩
    clear hb1
    obtain ⟨⟨c10, c11, c12, c13⟩, f1, l1⟩ := B1
    go_wp2
    refine bodyPost_ret (v := .tuple #[.int .i64 0, .agg #[.string s, .int .i64 a, .int .i64 n, .bool true]]) (by simp [results, Tryd.results94, go_sem, c10, c11, c12, c13]) rfl ⟨rfl, ?_⟩
    exact ((((bel1.setCell (by simp) _).setCell (by simp) _).setCell (by simp) _).setCell (by simp) _)

set_option maxHeartbeats 400000 in
theorem num_no (s : ByteArray) (a n : Nat) (k : Int) (b : Bool) (w : World) (hs : s.size ≤ maxLen) (h1 : a ≤ n) (h2 : n ≤ s.size) (h3 : hasB a n k b = false) (h4 : 1 ≤ k) (h5 : k ≤ 7) :
    Calls Tryd.prog 94 #[.agg #[.string s, .int .i64 a, .int .i64 n, .bool b], .int .i64 k] w fun e w' => e = .returned (.tuple #[.int .i64 0, .agg #[.string s, .int .i64 a, .int .i64 n, .bool true]]) ∧ Below w.heap.size w w' := by
  go_enter Tryd.func94, Tryd.ntmps94
  go_wp2_with fail
  refine (text_no _ _ _ _ _ _ hs h1 h2 h3).mono ?_
  rintro e w1 ⟨rfl, hb1⟩
  obtain ⟨B1, bel1⟩ : Box w1 (w.heap.size + 1) { data := #[] } 0 0 false ∧ Below w.heap.size w w1 :=
    ⟨by have := box_below (box_new _ _ _ _ _) hb1; simpa using this, bcall (balloc (balloc (Below.refl _ _) _) _) hb1⟩
  clear hb1
  go_wp2_with fail
  generalize hW : w1.alloc _ = W3
  have D1 : Box W3 (w.heap.size + 1) { data := #[] } 0 0 false := by rw [← hW]; exact box_old B1 _
  have D2 : Box W3 w1.heap.size s a n true := by rw [← hW]; exact box_new _ _ _ _ _
  have bel3 : Below w.heap.size w W3 := by rw [← hW]; exact balloc bel1 _
  have hlt : w.heap.size + 1 < w1.heap.size := B1.2.2
  generalize w1.heap.size = k2 at *
  clear hW B1 bel1
  obtain ⟨⟨c10, c11, c12, c13⟩, f1, l1⟩ := D1
  obtain ⟨⟨c20, c21, c22, c23⟩, f2, l2⟩ := D2
  have hx : (ByteArray.mk #[]).size ≤ 7 := by decide
  go_region_with (go_at_call 98; refine (number_any _ _ hx).mono ?_; rintro e w' ⟨rfl, rfl⟩)
  all_goals
    go_wp2
    refine bodyPost_ret (v := .tuple #[.int .i64 0, .agg #[.string s, .int .i64 a, .int .i64 n, .bool true]]) (by simp [results, Tryd.results94, go_sem, c10, c11, c12, c13, numL_nil]) rfl ⟨rfl, ?_⟩
    exact Below.drew ((((bel3.setCell (by simp) _).setCell (by simp) _).setCell (by simp) _).setCell (by simp) _)
end Go.Proofs.YteecialdkfaejaaDoor.Cur
