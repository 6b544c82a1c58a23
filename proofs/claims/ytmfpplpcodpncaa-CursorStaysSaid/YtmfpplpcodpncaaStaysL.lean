/-
  What taking does to a cursor that may be, and what stands in memory while it is taken.
-/
import Derived.Test.YtmfpplpcodpncaaAwake
import Derived.Test.YtmfpplpcodpncaaCarve
import Derived.Lib.SmallJoins
import Derived.Deep.RegionHeld3
import Derived.Deep.DeepCutAuto
import Derived.Deep.CutBlock
import Derived.Deep.QuietTactic
import Derived.BigQuiet
import Derived.Deep.LoopGhost
import Derived.ChangeOld
namespace Go.Proofs.Ytmfpplpcodpncaa.cursorStays
open Go.ChangeShapes Go.WideShapes Go.ChangeAt Go.RowKit
open Go.ChangeMaps (open_string shut_string)
open Go.Proofs.Ytmfpplpcodpncaa.Cur
set_option linter.unusedVariables false

/-- what taking does to a cursor's place and mark -/
def Step (a a' n : Nat) (b b' : Bool) : Prop := a ≤ a' ∧ a' ≤ n ∧ (b = true → a' = a ∧ b' = true) ∧ (b' = true → a' = a)

theorem step_no (a n : Nat) (b : Bool) (h : a ≤ n) : Step a a n b true := ⟨Nat.le_refl _, h, fun _ => ⟨rfl, rfl⟩, fun _ => rfl⟩
theorem step_yes (a m n : Nat) (h : a + m ≤ n) : Step a (a + m) n false false := ⟨by omega, h, by simp, by simp⟩

theorem has_yes (a n : Nat) (k : Int) (b : Bool) (h : hasB a n k b = true) : b = false ∧ ∃ m : Nat, k = m ∧ a + m ≤ n := by
  unfold hasB at h
  simp at h
  obtain ⟨⟨hb, h0⟩, h1⟩ := h
  obtain ⟨m, rfl⟩ := Int.eq_ofNat_of_zero_le h0
  exact ⟨hb, m, rfl, by omega⟩

theorem num_moved (s : ByteArray) (a n : Nat) (k : Int) (b : Bool) (hs : s.size ≤ maxLen) (h1 : a ≤ n) (h2 : n ≤ s.size) :
    ∃ (v : Int) (a' : Nat) (b' : Bool), Step a a' n b b' ∧ ∀ w : World, Calls Try.prog 12 #[.agg #[.string s, .int .i64 a, .int .i64 n, .bool b], .int .i64 k] w fun e w' => e = .returned (.tuple #[.int .i64 v, .agg #[.string s, .int .i64 a', .int .i64 n, .bool b']]) ∧ Below w.heap.size w w' := by
  by_cases hz : sizeB k = true
  · have hz' : 1 ≤ k ∧ k ≤ 7 := by unfold sizeB at hz; simpa using hz
    by_cases h : hasB a n k b = true
    · obtain ⟨rfl, m, rfl, hm⟩ := has_yes a n k b h
      exact ⟨_, a + m, false, step_yes a m n hm, fun w => by have h := num_yes s a n m w hs h1 h2 hm (by omega) (by omega); rw [← Int.natCast_add] at h; exact h⟩
    · have h' : hasB a n k b = false := by simpa using h
      exact ⟨_, a, true, step_no a n b h1, fun w => num_no s a n k b w hs h1 h2 h' hz'.1 hz'.2⟩
  · have hz' : sizeB k = false := by simpa using hz
    exact ⟨_, a, true, step_no a n b h1, fun w => num_size s a n k b w hz'⟩

theorem text_moved (s : ByteArray) (a n : Nat) (k : Int) (b : Bool) (hs : s.size ≤ maxLen) (h1 : a ≤ n) (h2 : n ≤ s.size) :
    ∃ (v : ByteArray) (a' : Nat) (b' : Bool), Step a a' n b b' ∧ ∀ w : World, Calls Try.prog 14 #[.agg #[.string s, .int .i64 a, .int .i64 n, .bool b], .int .i64 k] w fun e w' => e = .returned (.tuple #[.string v, .agg #[.string s, .int .i64 a', .int .i64 n, .bool b']]) ∧ Below w.heap.size w w' := by
  by_cases h : hasB a n k b = true
  · obtain ⟨rfl, m, rfl, hm⟩ := has_yes a n k b h
    exact ⟨_, a + m, false, step_yes a m n hm, fun w => by have h := text_yes s a n m w hs h1 h2 hm; rw [← Int.natCast_add] at h; exact h⟩
  · have h' : hasB a n k b = false := by simpa using h
    exact ⟨_, a, true, step_no a n b h1, fun w => text_no s a n k b w hs h1 h2 h'⟩

theorem carve_moved (s : ByteArray) (a n : Nat) (k : Int) (b : Bool) (hs : s.size ≤ maxLen) (h1 : a ≤ n) (h2 : n ≤ s.size) :
    ∃ (s3 : ByteArray) (a3 n3 : Int) (b3 : Bool) (a' : Nat) (b' : Bool), Step a a' n b b' ∧ (b' = false → a3 = a ∧ n3 = a' ∧ b3 = false ∧ (a' : Int) - a = k) ∧ ∀ w : World, Calls Try.prog 16 #[.agg #[.string s, .int .i64 a, .int .i64 n, .bool b], .int .i64 k] w fun e w' => e = .returned (.tuple #[.agg #[.string s3, .int .i64 a3, .int .i64 n3, .bool b3], .agg #[.string s, .int .i64 a', .int .i64 n, .bool b']]) ∧ Below w.heap.size w w' := by
  by_cases h : hasB a n k b = true
  · obtain ⟨rfl, m, rfl, hm⟩ := has_yes a n k b h
    exact ⟨s, a, (a + m : Nat), false, a + m, false, step_yes a m n hm, fun _ => ⟨rfl, rfl, rfl, by omega⟩, fun w => by have h := carve_yes s a n m w hs h1 h2 hm; rw [← Int.natCast_add] at h; exact h⟩
  · have h' : hasB a n k b = false := by simpa using h
    exact ⟨_, _, _, _, a, true, step_no a n b h1, by simp, fun w => carve_no s a n k b w hs h1 h2 h'⟩

/-- what a cell holds -/
def cellOf (w : World) (p : Addr) : Value := (w.cell? p).getD (.bool false)

theorem cellOf_of {w : World} {p : Addr} {v : Value} (h : w.cell? p = some v) : w.cell? p = some (cellOf w p) := by unfold cellOf; rw [h]; rfl

theorem cellOf_below {W w1 : World} {k i : Nat} (hb : Below W.heap.size W w1) (l : k < W.heap.size) (h : W.cell? ⟨k, i, none⟩ = some (cellOf W ⟨k, i, none⟩)) : w1.cell? ⟨k, i, none⟩ = some (cellOf w1 ⟨k, i, none⟩) :=
  cellOf_of ((hb.cell (p := ⟨k, i, none⟩) l).trans h)

/-- four stores to one block -/
abbrev put4 (W : World) (k : Nat) (u0 u1 u2 u3 : Value) : World := (((W.setCell ⟨k, 0, none⟩ u0).setCell ⟨k, 1, none⟩ u1).setCell ⟨k, 2, none⟩ u2).setCell ⟨k, 3, none⟩ u3

theorem put4_other (W : World) (k q o : Nat) (hq : q ≠ k) (u0 u1 u2 u3 : Value) : (put4 W k u0 u1 u2 u3).cell? ⟨q, o, none⟩ = W.cell? ⟨q, o, none⟩ := by
  unfold put4; simp [go_sem]

theorem put4_frozen (W : World) (k q o : Nat) (u0 u1 u2 u3 : Value) : (put4 W k u0 u1 u2 u3).frozen? ⟨q, o, none⟩ = W.frozen? ⟨q, o, none⟩ := by
  unfold put4; simp [go_sem]

theorem put4_size (W : World) (k : Nat) (u0 u1 u2 u3 : Value) : (put4 W k u0 u1 u2 u3).heap.size = W.heap.size := by
  unfold put4; simp [go_sem]

theorem put4_at (W : World) (k : Nat) (u0 u1 u2 u3 v0 v1 v2 v3 : Value) (h0 : W.cell? ⟨k, 0, none⟩ = some v0) (h1 : W.cell? ⟨k, 1, none⟩ = some v1) (h2 : W.cell? ⟨k, 2, none⟩ = some v2) (h3 : W.cell? ⟨k, 3, none⟩ = some v3) :
    (put4 W k u0 u1 u2 u3).cell? ⟨k, 0, none⟩ = some u0 ∧ (put4 W k u0 u1 u2 u3).cell? ⟨k, 1, none⟩ = some u1 ∧ (put4 W k u0 u1 u2 u3).cell? ⟨k, 2, none⟩ = some u2 ∧ (put4 W k u0 u1 u2 u3).cell? ⟨k, 3, none⟩ = some u3 := by
  unfold put4
  refine ⟨?_, ?_, ?_, ?_⟩ <;> simp [go_sem, h0, h1, h2, h3]

theorem put4_bel {w W : World} {q : Nat} (h : Below w.heap.size w W) (hq : w.heap.size ≤ q) (u0 u1 u2 u3 : Value) : Below w.heap.size w (put4 W q u0 u1 u2 u3) :=
  (((h.setCell hq _).setCell hq _).setCell hq _).setCell hq _

/-- what stands while a number or a text is taken -/
def HeldN (w : World) (k5 k7 xb xo : Nat) (s : ByteArray) (a n : Int) (b : Bool) (z : Int) (W : World) : Prop := W.cell? ⟨k5, 0, none⟩ = some (.string s) ∧ W.cell? ⟨k5, 1, none⟩ = some (.int .i64 a) ∧ W.cell? ⟨k5, 2, none⟩ = some (.int .i64 n) ∧ W.cell? ⟨k5, 3, none⟩ = some (.bool b) ∧ W.cell? ⟨xb, xo, none⟩ = some (.int .i8 z) ∧ W.cell? ⟨k7, 0, none⟩ = some (cellOf W ⟨k7, 0, none⟩) ∧ W.cell? ⟨k7, 1, none⟩ = some (cellOf W ⟨k7, 1, none⟩) ∧ W.cell? ⟨k7, 2, none⟩ = some (cellOf W ⟨k7, 2, none⟩) ∧ W.cell? ⟨k7, 3, none⟩ = some (cellOf W ⟨k7, 3, none⟩) ∧ (∀ o, W.frozen? ⟨k7, o, none⟩ = false) ∧ k7 < W.heap.size ∧ (∀ o, W.frozen? ⟨k5, o, none⟩ = false) ∧ k5 < W.heap.size ∧ Below w.heap.size w W

theorem heldN_mono {w : World} {k5 k7 xb xo : Nat} {s : ByteArray} {a n : Int} {b : Bool} {z : Int} (W w1 : World) (h : HeldN w k5 k7 xb xo s a n b z W) (hb : Below W.heap.size W w1) : HeldN w k5 k7 xb xo s a n b z w1 := by
  obtain ⟨c0, c1, c2, c3, cz, l0, l1, l2, l3, f7, t7, f5, t5, bel⟩ := h
  obtain ⟨hc, hf⟩ := bcell hb
  exact ⟨by rw [hc _ _ t5]; exact c0, by rw [hc _ _ t5]; exact c1, by rw [hc _ _ t5]; exact c2, by rw [hc _ _ t5]; exact c3, by rw [hc _ _ (World.block_lt_of_cell? W _ cz)]; exact cz,
    cellOf_below hb t7 l0, cellOf_below hb t7 l1, cellOf_below hb t7 l2, cellOf_below hb t7 l3, fun o => by rw [hf _ _ t7]; exact f7 o, Nat.lt_of_lt_of_le t7 hb.size, fun o => by rw [hf _ _ t5]; exact f5 o, Nat.lt_of_lt_of_le t5 hb.size, bcall bel hb⟩

theorem heldN_put {w : World} {k5 k7 xb xo : Nat} {s : ByteArray} {a n : Int} {b : Bool} {z : Int} {W : World} (h5 : k5 ≠ k7) (hx : xb ≠ k7) (hw : w.heap.size ≤ k7) (h : HeldN w k5 k7 xb xo s a n b z W) (u0 u1 u2 u3 : Value) : HeldN w k5 k7 xb xo s a n b z (put4 W k7 u0 u1 u2 u3) := by
  obtain ⟨c0, c1, c2, c3, cz, l0, l1, l2, l3, f7, t7, f5, t5, bel⟩ := h
  obtain ⟨p0, p1, p2, p3⟩ := put4_at W k7 u0 u1 u2 u3 _ _ _ _ l0 l1 l2 l3
  exact ⟨by rw [put4_other _ _ _ _ h5]; exact c0, by rw [put4_other _ _ _ _ h5]; exact c1, by rw [put4_other _ _ _ _ h5]; exact c2, by rw [put4_other _ _ _ _ h5]; exact c3, by rw [put4_other _ _ _ _ hx]; exact cz,
    cellOf_of p0, cellOf_of p1, cellOf_of p2, cellOf_of p3, fun o => by rw [put4_frozen]; exact f7 o, by rw [put4_size]; exact t7, fun o => by rw [put4_frozen]; exact f5 o, by rw [put4_size]; exact t5, put4_bel bel hw _ _ _ _⟩

/-- what is kept below every old world is kept by a call -/
theorem heldP {P : Program} {f : Nat} {args : Array Value} {W : World} {v : Ending} (S : World → Prop) (hm : ∀ W w1, S W → Below W.heap.size W w1 → S w1)
    (h : Calls P f args W fun e w' => e = v ∧ Below W.heap.size W w') (hS : S W) : Calls P f args W fun e w' => e = v ∧ S w' :=
  h.mono fun _ _ ⟨he, hb⟩ => ⟨he, hm _ _ hS hb⟩

theorem heldN_box {w : World} {k5 k7 xb xo : Nat} {s : ByteArray} {a n : Int} {b : Bool} {z : Int} {W : World} (h5 : k5 ≠ k7) (hw : w.heap.size ≤ k7) (h : HeldN w k5 k7 xb xo s a n b z W) (s' : ByteArray) (a' n' : Int) (b' : Bool) :
    Box (put4 W k7 (.string s') (.int .i64 a') (.int .i64 n') (.bool b')) k7 s' a' n' b' ∧ Box (put4 W k7 (.string s') (.int .i64 a') (.int .i64 n') (.bool b')) k5 s a n b ∧ Below w.heap.size w (put4 W k7 (.string s') (.int .i64 a') (.int .i64 n') (.bool b')) := by
  obtain ⟨c0, c1, c2, c3, cz, l0, l1, l2, l3, f7, t7, f5, t5, bel⟩ := h
  obtain ⟨p0, p1, p2, p3⟩ := put4_at W k7 (.string s') (.int .i64 a') (.int .i64 n') (.bool b') _ _ _ _ l0 l1 l2 l3
  exact ⟨⟨⟨p0, p1, p2, p3⟩, fun o => by rw [put4_frozen]; exact f7 o, by rw [put4_size]; exact t7⟩,
    ⟨⟨by rw [put4_other _ _ _ _ h5]; exact c0, by rw [put4_other _ _ _ _ h5]; exact c1, by rw [put4_other _ _ _ _ h5]; exact c2, by rw [put4_other _ _ _ _ h5]; exact c3⟩, fun o => by rw [put4_frozen]; exact f5 o, by rw [put4_size]; exact t5⟩,
    put4_bel bel hw _ _ _ _⟩

theorem box_put {W : World} {k : Nat} {s : ByteArray} {a n : Int} {b : Bool} (h : Box W k s a n b) (s' : ByteArray) (a' n' : Int) (b' : Bool) : Box (put4 W k (.string s') (.int .i64 a') (.int .i64 n') (.bool b')) k s' a' n' b' := by
  obtain ⟨⟨h0, h1, h2, h3⟩, hf, hl⟩ := h
  exact ⟨put4_at W k _ _ _ _ _ _ _ _ h0 h1 h2 h3, fun o => by rw [put4_frozen]; exact hf o, by rw [put4_size]; exact hl⟩

theorem box_puts {W : World} {k q : Nat} {s : ByteArray} {a n : Int} {b : Bool} (h : Box W k s a n b) (hq : k ≠ q) (u0 u1 u2 u3 : Value) : Box (put4 W q u0 u1 u2 u3) k s a n b := by
  obtain ⟨⟨h0, h1, h2, h3⟩, hf, hl⟩ := h
  exact ⟨⟨by rw [put4_other _ _ _ _ hq]; exact h0, by rw [put4_other _ _ _ _ hq]; exact h1, by rw [put4_other _ _ _ _ hq]; exact h2, by rw [put4_other _ _ _ _ hq]; exact h3⟩, fun o => by rw [put4_frozen]; exact hf o, by rw [put4_size]; exact hl⟩

/-- what stands while a cursor is carved -/
def HeldC (w : World) (k5 k7 k8 xb xo : Nat) (s : ByteArray) (a n : Int) (b : Bool) (z : Int) (W : World) : Prop := W.cell? ⟨k5, 0, none⟩ = some (.string s) ∧ W.cell? ⟨k5, 1, none⟩ = some (.int .i64 a) ∧ W.cell? ⟨k5, 2, none⟩ = some (.int .i64 n) ∧ W.cell? ⟨k5, 3, none⟩ = some (.bool b) ∧ W.cell? ⟨xb, xo, none⟩ = some (.int .i8 z) ∧ W.cell? ⟨k7, 0, none⟩ = some (cellOf W ⟨k7, 0, none⟩) ∧ W.cell? ⟨k7, 1, none⟩ = some (cellOf W ⟨k7, 1, none⟩) ∧ W.cell? ⟨k7, 2, none⟩ = some (cellOf W ⟨k7, 2, none⟩) ∧ W.cell? ⟨k7, 3, none⟩ = some (cellOf W ⟨k7, 3, none⟩) ∧ (∀ o, W.frozen? ⟨k7, o, none⟩ = false) ∧ k7 < W.heap.size ∧ W.cell? ⟨k8, 0, none⟩ = some (cellOf W ⟨k8, 0, none⟩) ∧ W.cell? ⟨k8, 1, none⟩ = some (cellOf W ⟨k8, 1, none⟩) ∧ W.cell? ⟨k8, 2, none⟩ = some (cellOf W ⟨k8, 2, none⟩) ∧ W.cell? ⟨k8, 3, none⟩ = some (cellOf W ⟨k8, 3, none⟩) ∧ (∀ o, W.frozen? ⟨k8, o, none⟩ = false) ∧ k8 < W.heap.size ∧ (∀ o, W.frozen? ⟨k5, o, none⟩ = false) ∧ k5 < W.heap.size ∧ Below w.heap.size w W

theorem heldC_mono {w : World} {k5 k7 k8 xb xo : Nat} {s : ByteArray} {a n : Int} {b : Bool} {z : Int} (W w1 : World) (h : HeldC w k5 k7 k8 xb xo s a n b z W) (hb : Below W.heap.size W w1) : HeldC w k5 k7 k8 xb xo s a n b z w1 := by
  obtain ⟨c0, c1, c2, c3, cz, l0, l1, l2, l3, f7, t7, m0, m1, m2, m3, f8, t8, f5, t5, bel⟩ := h
  obtain ⟨hc, hf⟩ := bcell hb
  exact ⟨by rw [hc _ _ t5]; exact c0, by rw [hc _ _ t5]; exact c1, by rw [hc _ _ t5]; exact c2, by rw [hc _ _ t5]; exact c3, by rw [hc _ _ (World.block_lt_of_cell? W _ cz)]; exact cz,
    cellOf_below hb t7 l0, cellOf_below hb t7 l1, cellOf_below hb t7 l2, cellOf_below hb t7 l3, fun o => by rw [hf _ _ t7]; exact f7 o, Nat.lt_of_lt_of_le t7 hb.size,
    cellOf_below hb t8 m0, cellOf_below hb t8 m1, cellOf_below hb t8 m2, cellOf_below hb t8 m3, fun o => by rw [hf _ _ t8]; exact f8 o, Nat.lt_of_lt_of_le t8 hb.size,
    fun o => by rw [hf _ _ t5]; exact f5 o, Nat.lt_of_lt_of_le t5 hb.size, bcall bel hb⟩

theorem heldC_put8 {w : World} {k5 k7 k8 xb xo : Nat} {s : ByteArray} {a n : Int} {b : Bool} {z : Int} {W : World} (h5 : k5 ≠ k8) (h7 : k7 ≠ k8) (hx : xb ≠ k8) (hw : w.heap.size ≤ k8) (h : HeldC w k5 k7 k8 xb xo s a n b z W) (u0 u1 u2 u3 : Value) : HeldC w k5 k7 k8 xb xo s a n b z (put4 W k8 u0 u1 u2 u3) := by
  obtain ⟨c0, c1, c2, c3, cz, l0, l1, l2, l3, f7, t7, m0, m1, m2, m3, f8, t8, f5, t5, bel⟩ := h
  obtain ⟨p0, p1, p2, p3⟩ := put4_at W k8 u0 u1 u2 u3 _ _ _ _ m0 m1 m2 m3
  exact ⟨by rw [put4_other _ _ _ _ h5]; exact c0, by rw [put4_other _ _ _ _ h5]; exact c1, by rw [put4_other _ _ _ _ h5]; exact c2, by rw [put4_other _ _ _ _ h5]; exact c3, by rw [put4_other _ _ _ _ hx]; exact cz,
    cellOf_of ((put4_other _ _ _ _ h7 _ _ _ _).trans l0), cellOf_of ((put4_other _ _ _ _ h7 _ _ _ _).trans l1), cellOf_of ((put4_other _ _ _ _ h7 _ _ _ _).trans l2), cellOf_of ((put4_other _ _ _ _ h7 _ _ _ _).trans l3), fun o => by rw [put4_frozen]; exact f7 o, by rw [put4_size]; exact t7,
    cellOf_of p0, cellOf_of p1, cellOf_of p2, cellOf_of p3, fun o => by rw [put4_frozen]; exact f8 o, by rw [put4_size]; exact t8, fun o => by rw [put4_frozen]; exact f5 o, by rw [put4_size]; exact t5, put4_bel bel hw _ _ _ _⟩

theorem heldC_put7 {w : World} {k5 k7 k8 xb xo : Nat} {s : ByteArray} {a n : Int} {b : Bool} {z : Int} {W : World} (h5 : k5 ≠ k7) (h8 : k8 ≠ k7) (hx : xb ≠ k7) (hw : w.heap.size ≤ k7) (h : HeldC w k5 k7 k8 xb xo s a n b z W) (u0 u1 u2 u3 : Value) : HeldC w k5 k7 k8 xb xo s a n b z (put4 W k7 u0 u1 u2 u3) := by
  obtain ⟨c0, c1, c2, c3, cz, l0, l1, l2, l3, f7, t7, m0, m1, m2, m3, f8, t8, f5, t5, bel⟩ := h
  obtain ⟨p0, p1, p2, p3⟩ := put4_at W k7 u0 u1 u2 u3 _ _ _ _ l0 l1 l2 l3
  exact ⟨by rw [put4_other _ _ _ _ h5]; exact c0, by rw [put4_other _ _ _ _ h5]; exact c1, by rw [put4_other _ _ _ _ h5]; exact c2, by rw [put4_other _ _ _ _ h5]; exact c3, by rw [put4_other _ _ _ _ hx]; exact cz,
    cellOf_of p0, cellOf_of p1, cellOf_of p2, cellOf_of p3, fun o => by rw [put4_frozen]; exact f7 o, by rw [put4_size]; exact t7,
    cellOf_of ((put4_other _ _ _ _ h8 _ _ _ _).trans m0), cellOf_of ((put4_other _ _ _ _ h8 _ _ _ _).trans m1), cellOf_of ((put4_other _ _ _ _ h8 _ _ _ _).trans m2), cellOf_of ((put4_other _ _ _ _ h8 _ _ _ _).trans m3), fun o => by rw [put4_frozen]; exact f8 o, by rw [put4_size]; exact t8, fun o => by rw [put4_frozen]; exact f5 o, by rw [put4_size]; exact t5, put4_bel bel hw _ _ _ _⟩

theorem heldC_box {w : World} {k5 k7 k8 xb xo : Nat} {s : ByteArray} {a n : Int} {b : Bool} {z : Int} {W W' : World} (h57 : k5 ≠ k7) (h58 : k5 ≠ k8) (h78 : k7 ≠ k8) (hx7 : xb ≠ k7) (hx8 : xb ≠ k8) (hw7 : w.heap.size ≤ k7) (hw8 : w.heap.size ≤ k8) (h : HeldC w k5 k7 k8 xb xo s a n b z W) (s3 s' : ByteArray) (a3 n3 a' n' : Int) (b3 b' : Bool)
    (he : put4 (put4 W k8 (.string s3) (.int .i64 a3) (.int .i64 n3) (.bool b3)) k7 (.string s') (.int .i64 a') (.int .i64 n') (.bool b') = W') :
    Box W' k5 s a n b ∧ Box W' k7 s' a' n' b' ∧ Box W' k8 s3 a3 n3 b3 ∧ W'.cell? ⟨xb, xo, none⟩ = some (.int .i8 z) ∧ Below w.heap.size w W' := by
  subst he
  have h1 := heldC_put8 h58 h78 hx8 hw8 h (.string s3) (.int .i64 a3) (.int .i64 n3) (.bool b3)
  have h2 := heldC_put7 h57 (Ne.symm h78) hx7 hw7 h1 (.string s') (.int .i64 a') (.int .i64 n') (.bool b')
  obtain ⟨_, _, _, _, _, _, _, _, _, _, _, m0, m1, m2, m3, _, _, _, _, _⟩ := h
  obtain ⟨q0, q1, q2, q3⟩ := put4_at W k8 (.string s3) (.int .i64 a3) (.int .i64 n3) (.bool b3) _ _ _ _ m0 m1 m2 m3
  obtain ⟨_, _, _, _, _, l0, l1, l2, l3, _, _, _, _, _, _, _, _, _, _, _⟩ := h1
  obtain ⟨p0, p1, p2, p3⟩ := put4_at _ k7 (.string s') (.int .i64 a') (.int .i64 n') (.bool b') _ _ _ _ l0 l1 l2 l3
  obtain ⟨c0, c1, c2, c3, cz, _, _, _, _, f7, t7, _, _, _, _, f8, t8, f5, t5, bel⟩ := h2
  have h87 := Ne.symm h78
  exact ⟨⟨⟨c0, c1, c2, c3⟩, f5, t5⟩, ⟨⟨p0, p1, p2, p3⟩, f7, t7⟩,
    ⟨⟨(put4_other _ _ _ _ h87 _ _ _ _).trans q0, (put4_other _ _ _ _ h87 _ _ _ _).trans q1, (put4_other _ _ _ _ h87 _ _ _ _).trans q2, (put4_other _ _ _ _ h87 _ _ _ _).trans q3⟩, f8, t8⟩, cz, bel⟩

theorem heldC_new {w : World} {k5 k7 xb xo : Nat} {s : ByteArray} {a n : Int} {b : Bool} {z : Int} {W : World} (B5 : Box W k5 s a n b) (B7 : Box W k7 { data := #[] } 0 0 false) (cz : W.cell? ⟨xb, xo, none⟩ = some (.int .i8 z)) (bel : Below w.heap.size w W) :
    HeldC w k5 k7 W.heap.size xb xo s a n b z (W.alloc (.cells #[.string { data := #[] }, .int .i64 0, .int .i64 0, .bool false] 23)) := by
  have hb : Below W.heap.size W (W.alloc (.cells #[.string { data := #[] }, .int .i64 0, .int .i64 0, .bool false] 23)) := (Below.refl _ _).alloc (Nat.le_refl _) _
  have C5 := box_below B5 hb
  have C7 := box_below B7 hb
  have C8 := box_new W { data := #[] } 0 0 false
  obtain ⟨⟨c0, c1, c2, c3⟩, f5, t5⟩ := C5
  obtain ⟨⟨l0, l1, l2, l3⟩, f7, t7⟩ := C7
  obtain ⟨⟨m0, m1, m2, m3⟩, f8, t8⟩ := C8
  exact ⟨c0, c1, c2, c3, (hb.cell (p := ⟨xb, xo, none⟩) (World.block_lt_of_cell? W _ cz)).trans cz, cellOf_of l0, cellOf_of l1, cellOf_of l2, cellOf_of l3, f7, t7, cellOf_of m0, cellOf_of m1, cellOf_of m2, cellOf_of m3, f8, t8, f5, t5, bcall bel hb⟩

/-- what stands while what was carved is looked at -/
def HeldL (w : World) (k5 k7 k8 xb xo : Nat) (s s3 : ByteArray) (a n a' n' a3 n3 : Int) (b b' b3 : Bool) (z : Int) (W : World) : Prop := W.cell? ⟨k5, 0, none⟩ = some (.string s) ∧ W.cell? ⟨k5, 1, none⟩ = some (.int .i64 a) ∧ W.cell? ⟨k5, 2, none⟩ = some (.int .i64 n) ∧ W.cell? ⟨k5, 3, none⟩ = some (.bool b) ∧ W.cell? ⟨xb, xo, none⟩ = some (.int .i8 z) ∧ W.cell? ⟨k7, 0, none⟩ = some (.string s) ∧ W.cell? ⟨k7, 1, none⟩ = some (.int .i64 a') ∧ W.cell? ⟨k7, 2, none⟩ = some (.int .i64 n') ∧ W.cell? ⟨k7, 3, none⟩ = some (.bool b') ∧ k7 < W.heap.size ∧ W.cell? ⟨k8, 0, none⟩ = some (.string s3) ∧ W.cell? ⟨k8, 1, none⟩ = some (.int .i64 a3) ∧ W.cell? ⟨k8, 2, none⟩ = some (.int .i64 n3) ∧ W.cell? ⟨k8, 3, none⟩ = some (.bool b3) ∧ k8 < W.heap.size ∧ k5 < W.heap.size ∧ Below w.heap.size w W

theorem heldL_mono {w : World} {k5 k7 k8 xb xo : Nat} {s s3 : ByteArray} {a n a' n' a3 n3 : Int} {b b' b3 : Bool} {z : Int} (W w1 : World) (h : HeldL w k5 k7 k8 xb xo s s3 a n a' n' a3 n3 b b' b3 z W) (hb : Below W.heap.size W w1) : HeldL w k5 k7 k8 xb xo s s3 a n a' n' a3 n3 b b' b3 z w1 := by
  obtain ⟨c0, c1, c2, c3, cz, l0, l1, l2, l3, t7, m0, m1, m2, m3, t8, t5, bel⟩ := h
  obtain ⟨hc, hf⟩ := bcell hb
  exact ⟨by rw [hc _ _ t5]; exact c0, by rw [hc _ _ t5]; exact c1, by rw [hc _ _ t5]; exact c2, by rw [hc _ _ t5]; exact c3, by rw [hc _ _ (World.block_lt_of_cell? W _ cz)]; exact cz,
    by rw [hc _ _ t7]; exact l0, by rw [hc _ _ t7]; exact l1, by rw [hc _ _ t7]; exact l2, by rw [hc _ _ t7]; exact l3, Nat.lt_of_lt_of_le t7 hb.size,
    by rw [hc _ _ t8]; exact m0, by rw [hc _ _ t8]; exact m1, by rw [hc _ _ t8]; exact m2, by rw [hc _ _ t8]; exact m3, Nat.lt_of_lt_of_le t8 hb.size, Nat.lt_of_lt_of_le t5 hb.size, bcall bel hb⟩

end Go.Proofs.Ytmfpplpcodpncaa.cursorStays
