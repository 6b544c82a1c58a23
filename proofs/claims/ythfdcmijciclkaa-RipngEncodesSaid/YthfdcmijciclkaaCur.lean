/-
  Contracts of the cursor's small functions: what each answers of any cursor, and that nothing that was there is changed.
-/
import Derived.Test.YthfdcmijciclkaaRows
import Derived.WalkKit
import Derived.ProofKit
import Derived.OpenShut
import Derived.ShutString
import Derived.Below
import Derived.Lib.Hide
import Derived.WalkLawsBesides
import Derived.Outline
import Derived.RegionTactic
import Derived.Deep.RegionWith
import Derived.StillTailTactics
import Derived.Deep.RegionHeld3
import Derived.IntWalk
namespace Go.Proofs.Ythfdcmijciclkaa.Cur
open Go.ChangeShapes Go.WideShapes Go.ChangeAt Go.RowKit
set_option linter.unusedVariables false
set_option maxRecDepth 100000

def rightB (s : ByteArray) (a n : Int) : Bool := decide (0 ≤ a) && decide (a ≤ n) && decide (n ≤ s.size)

theorem bool_eq {a b : Bool} (h : a = b) : Ending.returned (.bool a) = .returned (.bool b) := by rw [h]

theorem bcell {W w1 : World} (hb : Below W.heap.size W w1) : (∀ b o, b < W.heap.size → w1.cell? ⟨b, o, none⟩ = W.cell? ⟨b, o, none⟩) ∧ (∀ b o, b < W.heap.size → w1.frozen? ⟨b, o, none⟩ = W.frozen? ⟨b, o, none⟩) :=
  ⟨fun b o h => hb.cell (p := ⟨b, o, none⟩) h, fun b o h => hb.frozen (p := ⟨b, o, none⟩) h⟩

theorem bcall {w W w1 : World} (h : Below w.heap.size w W) (hb : Below W.heap.size W w1) : Below w.heap.size w w1 := h.trans (hb.mono h.size)

theorem balloc {w W : World} (h : Below w.heap.size w W) (o : Obj) : Below w.heap.size w (W.alloc o) := h.alloc h.size o

/-- a cursor lies in block k -/
def Box (w : World) (k : Nat) (s : ByteArray) (a n : Int) (b : Bool) : Prop :=
  (w.cell? ⟨k, 0, none⟩ = some (.string s) ∧ w.cell? ⟨k, 1, none⟩ = some (.int .i64 a) ∧ w.cell? ⟨k, 2, none⟩ = some (.int .i64 n) ∧ w.cell? ⟨k, 3, none⟩ = some (.bool b)) ∧ (∀ o, w.frozen? ⟨k, o, none⟩ = false) ∧ k < w.heap.size

theorem box_below {W w1 : World} {k : Nat} {s : ByteArray} {a n : Int} {b : Bool} (h : Box W k s a n b) (hb : Below W.heap.size W w1) : Box w1 k s a n b := by
  obtain ⟨⟨h0, h1, h2, h3⟩, hf, hl⟩ := h
  obtain ⟨hc, hfz⟩ := bcell hb
  refine ⟨⟨?_, ?_, ?_, ?_⟩, fun o => ?_, Nat.lt_of_lt_of_le hl hb.size⟩
  · rw [hc _ _ hl]; exact h0
  · rw [hc _ _ hl]; exact h1
  · rw [hc _ _ hl]; exact h2
  · rw [hc _ _ hl]; exact h3
  · rw [hfz _ _ hl]; exact hf o

theorem box_old {W : World} {k : Nat} {s : ByteArray} {a n : Int} {b : Bool} (h : Box W k s a n b) (o : Obj) : Box (W.alloc o) k s a n b :=
  box_below h ((Below.refl _ _).alloc (Nat.le_refl _) _)

theorem box_drew {W : World} {k : Nat} {s : ByteArray} {a n : Int} {b : Bool} (h : Box W k s a n b) : Box W.drew k s a n b :=
  box_below h (Below.refl _ _).drew

/-- may n bytes be taken? of a cursor that may be -/
def hasB (a n k : Int) (b : Bool) : Bool := !b && decide (0 ≤ k) && decide (k ≤ n - a)

end Go.Proofs.Ythfdcmijciclkaa.Cur
