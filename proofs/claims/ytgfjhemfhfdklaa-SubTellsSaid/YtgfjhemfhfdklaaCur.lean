/-
  Contracts of the cursor's small functions: what each answers of any cursor, and that nothing that was there is changed.
-/
import Derived.Test.YtgfjhemfhfdklaaRows
import Derived.WalkKit
import Derived.ProofKit
import Derived.OpenShut
import Derived.ShutString
import Derived.Below
import Derived.Lib.Hide
import Derived.WalkLawsBesides
import Derived.Outline
import Derived.RegionTactic
import Derived.Deep.RegionWith
import Derived.StillTailTactics
import Derived.Deep.RegionHeld3
import Derived.IntWalk
namespace Go.Proofs.Ytgfjhemfhfdklaa.Cur
open Go.ChangeShapes Go.WideShapes Go.ChangeAt Go.RowKit
set_option linter.unusedVariables false
set_option maxRecDepth 100000

def rightB (s : ByteArray) (a n : Int) : Bool := decide (0 ≤ a) && decide (a ≤ n) && decide (n ≤ s.size)

theorem bool_eq {a b : Bool} (h : a = b) : Ending.returned (.bool a) = .returned (.bool b) := by rw [h]

theorem new_any (s : ByteArray) (w : World) (hs : s.size ≤ maxLen) :
    Calls Try.prog 32 #[.string s] w fun e w' => e = .returned (.agg #[.string s, .int .i64 0, .int .i64 s.size, .bool false]) ∧ Below w.heap.size w w' := by
  unfold maxLen at hs
  go_enter Try.func32, Try.ntmps32
  go_wp2
  exact bodyPost_ret (v := .agg #[.string s, .int .i64 0, .int .i64 s.size, .bool false]) (by simp [results, Try.results32, go_sem]) rfl ⟨rfl, (Below.refl _ _).alloc (Nat.le_refl _) _⟩

theorem left_ok (s : ByteArray) (a n : Int) (w : World) :
    Calls Try.prog 33 #[.agg #[.string s, .int .i64 a, .int .i64 n, .bool false]] w fun e w' => e = .returned (.int .i64 (wrap64 (n - a))) ∧ Below w.heap.size w w' := by
  go_enter Try.func33, Try.ntmps33
  go_wp2
  go_ret
  exact ⟨rfl, (Below.refl _ _).alloc (Nat.le_refl _) _⟩

theorem left_bad (s : ByteArray) (a n : Int) (w : World) :
    Calls Try.prog 33 #[.agg #[.string s, .int .i64 a, .int .i64 n, .bool true]] w fun e w' => e = .returned (.int .i64 0) ∧ Below w.heap.size w w' := by
  go_enter Try.func33, Try.ntmps33
  go_wp2
  go_ret
  exact ⟨rfl, (Below.refl _ _).alloc (Nat.le_refl _) _⟩

theorem spoil_any (s : ByteArray) (a n : Int) (b : Bool) (w : World) :
    Calls Try.prog 42 #[.agg #[.string s, .int .i64 a, .int .i64 n, .bool b]] w fun e w' => e = .returned (.agg #[.string s, .int .i64 a, .int .i64 n, .bool true]) ∧ Below w.heap.size w w' := by
  go_enter Try.func42, Try.ntmps42
  go_wp2
  exact bodyPost_ret (v := .agg #[.string s, .int .i64 a, .int .i64 n, .bool true]) (by simp [results, Try.results42, go_sem]) rfl ⟨rfl, ((Below.refl _ _).alloc (Nat.le_refl _) _).alloc (by simp) _⟩

theorem skip_any (s : ByteArray) (a n k : Int) (b : Bool) (w : World) :
    Calls Try.prog 45 #[.agg #[.string s, .int .i64 a, .int .i64 n, .bool b], .int .i64 k] w fun e w' => e = .returned (.agg #[.string s, .int .i64 (wrap64 (a + k)), .int .i64 n, .bool b]) ∧ Below w.heap.size w w' := by
  go_enter Try.func45, Try.ntmps45
  go_wp2
  exact bodyPost_ret (v := .agg #[.string s, .int .i64 (wrap64 (a + k)), .int .i64 n, .bool b]) (by simp [results, Try.results45, go_sem]) rfl ⟨rfl, ((Below.refl _ _).alloc (Nat.le_refl _) _).alloc (by simp) _⟩

theorem right_any (s : ByteArray) (a n : Int) (b : Bool) (w : World) (hs : s.size ≤ maxLen) :
    Calls Try.prog 46 #[.agg #[.string s, .int .i64 a, .int .i64 n, .bool b]] w fun e w' => e = .returned (.bool (rightB s a n)) ∧ Below w.heap.size w w' := by
  unfold maxLen at hs
  by_cases h1 : 0 ≤ a
  · by_cases h2 : a ≤ n
    · by_cases h3 : n ≤ s.size
      all_goals
        go_enter Try.func46, Try.ntmps46
        go_wp2
        go_ret
        exact ⟨bool_eq (by unfold rightB; simp; omega), (Below.refl _ _).alloc (Nat.le_refl _) _⟩
    · go_enter Try.func46, Try.ntmps46
      go_wp2
      go_ret
      exact ⟨bool_eq (by unfold rightB; simp; omega), (Below.refl _ _).alloc (Nat.le_refl _) _⟩
  · go_enter Try.func46, Try.ntmps46
    go_wp2
    go_ret
    exact ⟨bool_eq (by unfold rightB; simp; omega), (Below.refl _ _).alloc (Nat.le_refl _) _⟩

theorem bcell {W w1 : World} (hb : Below W.heap.size W w1) : (∀ b o, b < W.heap.size → w1.cell? ⟨b, o, none⟩ = W.cell? ⟨b, o, none⟩) ∧ (∀ b o, b < W.heap.size → w1.frozen? ⟨b, o, none⟩ = W.frozen? ⟨b, o, none⟩) :=
  ⟨fun b o h => hb.cell (p := ⟨b, o, none⟩) h, fun b o h => hb.frozen (p := ⟨b, o, none⟩) h⟩

theorem bcall {w W w1 : World} (h : Below w.heap.size w W) (hb : Below W.heap.size W w1) : Below w.heap.size w w1 := h.trans (hb.mono h.size)

theorem balloc {w W : World} (h : Below w.heap.size w W) (o : Obj) : Below w.heap.size w (W.alloc o) := h.alloc h.size o

/-- a cursor lies in block k -/
def Box (w : World) (k : Nat) (s : ByteArray) (a n : Int) (b : Bool) : Prop :=
  (w.cell? ⟨k, 0, none⟩ = some (.string s) ∧ w.cell? ⟨k, 1, none⟩ = some (.int .i64 a) ∧ w.cell? ⟨k, 2, none⟩ = some (.int .i64 n) ∧ w.cell? ⟨k, 3, none⟩ = some (.bool b)) ∧ (∀ o, w.frozen? ⟨k, o, none⟩ = false) ∧ k < w.heap.size

theorem box_below {W w1 : World} {k : Nat} {s : ByteArray} {a n : Int} {b : Bool} (h : Box W k s a n b) (hb : Below W.heap.size W w1) : Box w1 k s a n b := by
  obtain ⟨⟨h0, h1, h2, h3⟩, hf, hl⟩ := h
  obtain ⟨hc, hfz⟩ := bcell hb
  refine ⟨⟨?_, ?_, ?_, ?_⟩, fun o => ?_, Nat.lt_of_lt_of_le hl hb.size⟩
  · rw [hc _ _ hl]; exact h0
  · rw [hc _ _ hl]; exact h1
  · rw [hc _ _ hl]; exact h2
  · rw [hc _ _ hl]; exact h3
  · rw [hfz _ _ hl]; exact hf o

theorem box_old {W : World} {k : Nat} {s : ByteArray} {a n : Int} {b : Bool} (h : Box W k s a n b) (o : Obj) : Box (W.alloc o) k s a n b :=
  box_below h ((Below.refl _ _).alloc (Nat.le_refl _) _)

theorem box_drew {W : World} {k : Nat} {s : ByteArray} {a n : Int} {b : Bool} (h : Box W k s a n b) : Box W.drew k s a n b :=
  box_below h (Below.refl _ _).drew

theorem box_new (w : World) (s : ByteArray) (a n : Int) (b : Bool) : Box (w.alloc (.cells #[.string s, .int .i64 a, .int .i64 n, .bool b] 66)) w.heap.size s a n b := by
  refine ⟨⟨?_, ?_, ?_, ?_⟩, fun o => ?_, ?_⟩ <;> simp [go_sem]

/-- may n bytes be taken? of a cursor that may be -/
def hasB (a n k : Int) (b : Bool) : Bool := !b && decide (0 ≤ k) && decide (k ≤ n - a)

theorem has_any (s : ByteArray) (a n : Nat) (k : Int) (b : Bool) (w : World) (hs : s.size ≤ maxLen) (h1 : a ≤ n) (h2 : n ≤ s.size) :
    Calls Try.prog 44 #[.agg #[.string s, .int .i64 a, .int .i64 n, .bool b], .int .i64 k] w fun e w' => e = .returned (.bool (hasB a n k b)) ∧ Below w.heap.size w w' := by
  have hr : rightB s a n = true := by unfold rightB; simp; omega
  have hm := hs
  unfold maxLen at hm
  have hw : wrap64 ((n : Int) - (a : Int)) = (n : Int) - (a : Int) := IntWalk.wrap64_in _ (by omega)
  cases b
  · by_cases h3 : 0 ≤ k
    · by_cases h4 : k ≤ (n : Int) - a
      all_goals
        go_enter Try.func44, Try.ntmps44
        go_wp2_with fail
        refine (right_any _ _ _ _ _ hs).mono ?_
        rintro e w1 ⟨rfl, hb1⟩
        obtain ⟨hc1, hf1⟩ := bcell hb1
        go_wp2_with fail
        refine (left_ok _ _ _ _).mono ?_
        rintro e w2 ⟨rfl, hb2⟩
        go_wp2_with fail
        go_ret
        refine ⟨bool_eq (by unfold hasB; simp; omega), ?_⟩
        exact bcall (bcall (balloc (Below.refl _ _) _) hb1) hb2
    · go_enter Try.func44, Try.ntmps44
      go_wp2_with fail
      refine (right_any _ _ _ _ _ hs).mono ?_
      rintro e w1 ⟨rfl, hb1⟩
      go_wp2_with fail
      go_ret
      refine ⟨bool_eq (by unfold hasB; simp; omega), ?_⟩
      exact bcall (balloc (Below.refl _ _) _) hb1
  · go_enter Try.func44, Try.ntmps44
    go_wp2_with fail
    go_ret
    exact ⟨bool_eq (by unfold hasB; simp), (Below.refl _ _).alloc (Nat.le_refl _) _⟩

end Go.Proofs.Ytgfjhemfhfdklaa.Cur
