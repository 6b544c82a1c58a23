/-
  Contracts of the cursor's small functions: what each answers of any cursor, and that nothing that was there is changed.
  The number that bytes make: both functions that reckon it, and the cursor's calls that take text.
  What Num answers of a cursor that may be.
  Contracts of the octet's functions and of the document's own: what each answers of any numbers and any text, and that nothing that was there is changed.
  The octet's calls that make bytes: Zeros and Put, and the document's own.
  Numbers and their bytes, for the layers of AODV: the document's Number and Of, what a number comes to, there and back. No conditions, but where they are said.
  What the bytes of TLVs are, which TLVs bytes are, and where they break off; a datagram's head: definitions on values alone, and facts on them. No conditions.
  What a message is, field by field, its lists beside it, and what it is for two to be the same: definitions and facts on values alone.
  The lists of two messages, the program's comparison of them (slices.Equal) and the document's: whether they are the same. Condition: lists of at most 2^20 elements.
  A message in a variable of its own: its block holds the message's cells; loaded and stored whole, or field by field.
  Whether two messages are the same: the program's answer and the document's. Condition: lists of at most 2^20 elements.
  A region that draws its order, walked in the text's order: what reads is taken first, in whatever world that meets one condition.
  Whether two messages are the same: the program's answer. Condition: lists of at most 2^20 elements.
-/
import Derived.Test.YtpkmpinbpfblfaaGreatDoorRows
import Derived.WalkKit
import Derived.ProofKit
import Derived.OpenShut
import Derived.ShutString
import Derived.Below
import Derived.Lib.Hide
import Derived.WalkLawsBesides
import Derived.Outline
import Derived.RegionTactic
import Derived.Deep.RegionWith
import Derived.StillTailTactics
import Derived.Deep.RegionHeld3
import Derived.IntWalk
import Derived.LoopTactic
import Derived.Laws.IdiomStrings
import Derived.OwnWalk
import Derived.Deep.QuietTactic
import Derived.BigQuiet
import Derived.Laws.StructEq
import Derived.Laws.Cells
import Derived.Laws.Rows
import Derived.Laws.Tables
import Derived.Deep.DeepCutAuto
import Derived.Deep.Cut
namespace Go.Proofs.YtpkmpinbpfblfaaGreatDoor.Cur
open Go.ChangeShapes Go.WideShapes Go.ChangeAt Go.RowKit
set_option linter.unusedVariables false
set_option maxRecDepth 100000

def rightB (s : ByteArray) (a n : Int) : Bool := decide (0 ≤ a) && decide (a ≤ n) && decide (n ≤ s.size)

theorem bool_eq {a b : Bool} (h : a = b) : Ending.returned (.bool a) = .returned (.bool b) := by rw [h]

theorem new_any (s : ByteArray) (w : World) (hs : s.size ≤ maxLen) :
    Calls Tryz.prog 36 #[.string s] w fun e w' => e = .returned (.agg #[.string s, .int .i64 0, .int .i64 s.size, .bool false]) ∧ Below w.heap.size w w' := by
  unfold maxLen at hs
  go_enter Tryz.func36, Tryz.ntmps36
  go_wp2
  exact bodyPost_ret (v := .agg #[.string s, .int .i64 0, .int .i64 s.size, .bool false]) (by simp [results, Tryz.results36, go_sem]) rfl ⟨rfl, (Below.refl _ _).alloc (Nat.le_refl _) _⟩

theorem left_ok (s : ByteArray) (a n : Int) (w : World) :
    Calls Tryz.prog 37 #[.agg #[.string s, .int .i64 a, .int .i64 n, .bool false]] w fun e w' => e = .returned (.int .i64 (wrap64 (n - a))) ∧ Below w.heap.size w w' := by
  go_enter Tryz.func37, Tryz.ntmps37
  go_wp2
  go_ret
  exact ⟨rfl, (Below.refl _ _).alloc (Nat.le_refl _) _⟩

theorem spoil_any (s : ByteArray) (a n : Int) (b : Bool) (w : World) :
    Calls Tryz.prog 60 #[.agg #[.string s, .int .i64 a, .int .i64 n, .bool b]] w fun e w' => e = .returned (.agg #[.string s, .int .i64 a, .int .i64 n, .bool true]) ∧ Below w.heap.size w w' := by
  go_enter Tryz.func60, Tryz.ntmps60
  go_wp2
  exact bodyPost_ret (v := .agg #[.string s, .int .i64 a, .int .i64 n, .bool true]) (by simp [results, Tryz.results60, go_sem]) rfl ⟨rfl, ((Below.refl _ _).alloc (Nat.le_refl _) _).alloc (by simp) _⟩

theorem skip_any (s : ByteArray) (a n k : Int) (b : Bool) (w : World) :
    Calls Tryz.prog 61 #[.agg #[.string s, .int .i64 a, .int .i64 n, .bool b], .int .i64 k] w fun e w' => e = .returned (.agg #[.string s, .int .i64 (wrap64 (a + k)), .int .i64 n, .bool b]) ∧ Below w.heap.size w w' := by
  go_enter Tryz.func61, Tryz.ntmps61
  go_wp2
  exact bodyPost_ret (v := .agg #[.string s, .int .i64 (wrap64 (a + k)), .int .i64 n, .bool b]) (by simp [results, Tryz.results61, go_sem]) rfl ⟨rfl, ((Below.refl _ _).alloc (Nat.le_refl _) _).alloc (by simp) _⟩

theorem right_any (s : ByteArray) (a n : Int) (b : Bool) (w : World) (hs : s.size ≤ maxLen) :
    Calls Tryz.prog 90 #[.agg #[.string s, .int .i64 a, .int .i64 n, .bool b]] w fun e w' => e = .returned (.bool (rightB s a n)) ∧ Below w.heap.size w w' := by
  unfold maxLen at hs
  by_cases h1 : 0 ≤ a
  · by_cases h2 : a ≤ n
    · by_cases h3 : n ≤ s.size
      all_goals
        go_enter Tryz.func90, Tryz.ntmps90
        go_wp2
        go_ret
        exact ⟨bool_eq (by unfold rightB; simp; omega), (Below.refl _ _).alloc (Nat.le_refl _) _⟩
    · go_enter Tryz.func90, Tryz.ntmps90
      go_wp2
      go_ret
      exact ⟨bool_eq (by unfold rightB; simp; omega), (Below.refl _ _).alloc (Nat.le_refl _) _⟩
  · go_enter Tryz.func90, Tryz.ntmps90
    go_wp2
    go_ret
    exact ⟨bool_eq (by unfold rightB; simp; omega), (Below.refl _ _).alloc (Nat.le_refl _) _⟩

theorem bcell {W w1 : World} (hb : Below W.heap.size W w1) : (∀ b o, b < W.heap.size → w1.cell? ⟨b, o, none⟩ = W.cell? ⟨b, o, none⟩) ∧ (∀ b o, b < W.heap.size → w1.frozen? ⟨b, o, none⟩ = W.frozen? ⟨b, o, none⟩) :=
  ⟨fun b o h => hb.cell (p := ⟨b, o, none⟩) h, fun b o h => hb.frozen (p := ⟨b, o, none⟩) h⟩

theorem bcall {w W w1 : World} (h : Below w.heap.size w W) (hb : Below W.heap.size W w1) : Below w.heap.size w w1 := h.trans (hb.mono h.size)

theorem balloc {w W : World} (h : Below w.heap.size w W) (o : Obj) : Below w.heap.size w (W.alloc o) := h.alloc h.size o

/-- a cursor lies in block k -/
def Box (w : World) (k : Nat) (s : ByteArray) (a n : Int) (b : Bool) : Prop :=
  (w.cell? ⟨k, 0, none⟩ = some (.string s) ∧ w.cell? ⟨k, 1, none⟩ = some (.int .i64 a) ∧ w.cell? ⟨k, 2, none⟩ = some (.int .i64 n) ∧ w.cell? ⟨k, 3, none⟩ = some (.bool b)) ∧ (∀ o, w.frozen? ⟨k, o, none⟩ = false) ∧ k < w.heap.size

theorem box_below {W w1 : World} {k : Nat} {s : ByteArray} {a n : Int} {b : Bool} (h : Box W k s a n b) (hb : Below W.heap.size W w1) : Box w1 k s a n b := by
  obtain ⟨⟨h0, h1, h2, h3⟩, hf, hl⟩ := h
  obtain ⟨hc, hfz⟩ := bcell hb
  refine ⟨⟨?_, ?_, ?_, ?_⟩, fun o => ?_, Nat.lt_of_lt_of_le hl hb.size⟩
  · rw [hc _ _ hl]; exact h0
  · rw [hc _ _ hl]; exact h1
  · rw [hc _ _ hl]; exact h2
  · rw [hc _ _ hl]; exact h3
  · rw [hfz _ _ hl]; exact hf o

theorem box_old {W : World} {k : Nat} {s : ByteArray} {a n : Int} {b : Bool} (h : Box W k s a n b) (o : Obj) : Box (W.alloc o) k s a n b :=
  box_below h ((Below.refl _ _).alloc (Nat.le_refl _) _)

theorem box_new (w : World) (s : ByteArray) (a n : Int) (b : Bool) : Box (w.alloc (.cells #[.string s, .int .i64 a, .int .i64 n, .bool b] 61)) w.heap.size s a n b := by
  refine ⟨⟨?_, ?_, ?_, ?_⟩, fun o => ?_, ?_⟩ <;> simp [go_sem]

/-- may n bytes be taken? of a cursor that may be -/
def hasB (a n k : Int) (b : Bool) : Bool := !b && decide (0 ≤ k) && decide (k ≤ n - a)

theorem has_any (s : ByteArray) (a n : Nat) (k : Int) (b : Bool) (w : World) (hs : s.size ≤ maxLen) (h1 : a ≤ n) (h2 : n ≤ s.size) :
    Calls Tryz.prog 59 #[.agg #[.string s, .int .i64 a, .int .i64 n, .bool b], .int .i64 k] w fun e w' => e = .returned (.bool (hasB a n k b)) ∧ Below w.heap.size w w' := by
  have hr : rightB s a n = true := by unfold rightB; simp; omega
  have hm := hs
  unfold maxLen at hm
  have hw : wrap64 ((n : Int) - (a : Int)) = (n : Int) - (a : Int) := IntWalk.wrap64_in _ (by omega)
  cases b
  · by_cases h3 : 0 ≤ k
    · by_cases h4 : k ≤ (n : Int) - a
      all_goals
        go_enter Tryz.func59, Tryz.ntmps59
        go_wp2_with fail
        refine (right_any _ _ _ _ _ hs).mono ?_
        rintro e w1 ⟨rfl, hb1⟩
        obtain ⟨hc1, hf1⟩ := bcell hb1
        go_wp2_with fail
        refine (left_ok _ _ _ _).mono ?_
        rintro e w2 ⟨rfl, hb2⟩
        go_wp2_with fail
        go_ret
        refine ⟨bool_eq (by unfold hasB; simp; omega), ?_⟩
        exact bcall (bcall (balloc (Below.refl _ _) _) hb1) hb2
    · go_enter Tryz.func59, Tryz.ntmps59
      go_wp2_with fail
      refine (right_any _ _ _ _ _ hs).mono ?_
      rintro e w1 ⟨rfl, hb1⟩
      go_wp2_with fail
      go_ret
      refine ⟨bool_eq (by unfold hasB; simp; omega), ?_⟩
      exact bcall (balloc (Below.refl _ _) _) hb1
  · go_enter Tryz.func59, Tryz.ntmps59
    go_wp2_with fail
    go_ret
    exact ⟨bool_eq (by unfold hasB; simp), (Below.refl _ _).alloc (Nat.le_refl _) _⟩

end Go.Proofs.YtpkmpinbpfblfaaGreatDoor.Cur
namespace Go.Proofs.YtpkmpinbpfblfaaGreatDoor.Cur
open Go.ChangeShapes Go.WideShapes Go.ChangeAt Go.RowKit
set_option linter.unusedVariables false
set_option maxRecDepth 100000

def numL (l : List UInt8) : Nat := l.foldl (fun n c => n * 256 + c.toNat) 0

theorem numL_snoc (l : List UInt8) (c : UInt8) : numL (l ++ [c]) = numL l * 256 + c.toNat := by
  unfold numL; rw [List.foldl_append]; rfl

theorem numL_lt (l : List UInt8) : numL l < 256 ^ l.length := by
  suffices h : ∀ (m : Nat) (l : List UInt8), l.length = m → numL l < 256 ^ m from h _ l rfl
  intro m
  induction m with
  | zero => intro l h; have := List.length_eq_zero_iff.1 h; subst this; decide
  | succ m ih =>
    intro l h
    have hl : l ≠ [] := by intro e; subst e; simp at h
    have e := List.dropLast_concat_getLast hl
    rw [← e, numL_snoc]
    have := ih l.dropLast (by simp; omega)
    have hc := (l.getLast hl).toNat_lt
    rw [Nat.pow_succ]
    omega

theorem take_snoc (s : ByteArray) (k : Nat) (h : k < s.size) : s.data.toList.take (k + 1) = s.data.toList.take k ++ [s[k]] := by
  rw [List.take_succ_eq_append_getElem (by simpa using h)]; rfl

theorem int_eq {k : IntKind} {a b : Int} (h : a = b) : Ending.returned (.int k a) = .returned (.int k b) := by rw [h]

theorem wraps_i64 (n : Int) (h₀ : 0 ≤ n) (h₁ : n < 2 ^ 63) : IntKind.i64.wrap n = n := by rw [IntKind.wrap_i64]; omega

theorem or8 (x c : Nat) (hx : x < 281474976710656) (hc : c < 256) : bits BinOp.or IntKind.i64 (wrap64 ((x : Int) * 256)) (wrap64 (c : Int)) = ((x * 256 + c : Nat) : Int) := by
  rw [IntWalk.wrap64_in _ (by omega), IntWalk.wrap64_in _ (by omega)]
  rw [bits_join .i64 63 (by decide) wraps_i64 8 _ _ (by omega) (by omega) (by omega) (by omega) (by omega) (by omega)]
  omega

theorem num_lt6 (s : ByteArray) (k : Nat) (h : k ≤ 6) (hk : k ≤ s.size) : numL (s.data.toList.take k) < 281474976710656 := by
  have := numL_lt (s.data.toList.take k)
  refine Nat.lt_of_lt_of_le this ?_
  have e : (s.data.toList.take k).length ≤ 6 := by simp; omega
  exact Nat.le_trans (Nat.pow_le_pow_right (by decide) e) (by decide)

theorem round_eq (s : ByteArray) (k : Nat) (h : k ≤ 6) (hk : k < s.size) :
    bits BinOp.or IntKind.i64 (wrap64 ((numL (s.data.toList.take k) : Nat) * 256)) (wrap64 (s[k].toNat : Nat)) = ((numL (s.data.toList.take (k + 1)) : Nat) : Int) := by
  rw [take_snoc s k hk, numL_snoc]
  exact or8 _ _ (num_lt6 s k h (by omega)) s[k].toNat_lt

set_option maxHeartbeats 400000 in
theorem number_any (s : ByteArray) (w : World) (hs : s.size ≤ 7) :
    Calls Tryz.prog 89 #[.string s] w fun e w' => e = .returned (.int .i64 (numL s.data.toList)) ∧ w = w' := by
  go_enter Tryz.func89, Tryz.ntmps89
  go_wp2
  go_loop [3, 4] (fun n i => ∃ k : Nat, k ≤ s.size ∧ i = .int .i64 k ∧ n = .int .i64 (numL (s.data.toList.take k))) (fun _ i => s.size - (intOf i).toNat)
  case atStart => exact ⟨0, Nat.zero_le _, rfl, rfl⟩
  case round =>
    obtain ⟨k, hk, rfl, rfl⟩ := hrel
    by_cases hlt : k < s.size
    · go_wp2
      go_round
      case rel => exact ⟨k + 1, by omega, by go_num, congrArg (Value.int IntKind.i64) (round_eq s k (by omega) hlt)⟩
      case measure => simp [intOf]; omega
    · go_wp2
      go_ret
      exact ⟨int_eq (by rw [List.take_of_length_le (by simp; omega)]), rfl⟩

set_option maxHeartbeats 400000 in
theorem text_yes (s : ByteArray) (a n k : Nat) (w : World) (hs : s.size ≤ maxLen) (h1 : a ≤ n) (h2 : n ≤ s.size) (h3 : a + k ≤ n) :
    Calls Tryz.prog 35 #[.agg #[.string s, .int .i64 a, .int .i64 n, .bool false], .int .i64 k] w fun e w' => e = .returned (.tuple #[.string (s.extract a (a + k)), .agg #[.string s, .int .i64 ((a : Int) + k), .int .i64 n, .bool false]]) ∧ Below w.heap.size w w' := by
  have hr : hasB a n k false = true := by unfold hasB; simp; omega
  have hm := hs
  unfold maxLen at hm
  have he : wrap64 ((a : Int) + (k : Int)) = (a : Int) + k := IntWalk.wrap64_in _ (by omega)
  have hsl : ∀ wx, Sem.run Tryz.prog (Instr.slice 9 (Value.string s) (some (Value.int IntKind.i64 (a : Int))) (some (Value.int IntKind.i64 ((a : Int) + (k : Int)))) none) wx = .ok (.string (s.extract a (a + k))) wx := by
    intro wx
    have := run_slice_string (P := Tryz.prog) wx 9 s .i64 .i64 (a : Int) ((a : Int) + (k : Int)) Tryz.underlying9 (by omega) (by omega) (by omega)
    rw [show ((a : Int) + (k : Int)).toNat = a + k from by omega, show (a : Int).toNat = a from by omega] at this
    exact this
  go_enter Tryz.func35, Tryz.ntmps35
  go_wp2_with fail
  refine (has_any _ _ _ _ _ _ hs h1 h2).mono ?_
  rintro e w1 ⟨rfl, hb1⟩
  obtain ⟨B0, B1, bel1⟩ : Box w1 w.heap.size s a n false ∧ Box w1 (w.heap.size + 1) { data := #[] } 0 0 false ∧ Below w.heap.size w w1 :=
    ⟨box_below (box_old (box_new _ _ _ _ _) _) hb1, by have := box_below (box_new _ _ _ _ _) hb1; simpa using this, bcall (balloc (balloc (Below.refl _ _) _) _) hb1⟩
  clear hb1
  obtain ⟨⟨c00, c01, c02, c03⟩, f0, l0⟩ := id B0
  go_wp2_with fail
  refine (skip_any _ _ _ _ _ _).mono ?_
  rintro e w2 ⟨rfl, hb2⟩
  clear c00 c01 c02 c03 f0 l0
  go_wp2_with fail
  generalize hW : w2.alloc _ = W3
  have C0 : Box W3 w.heap.size s a n false := by rw [← hW]; exact box_old (box_below B0 hb2) _
  have C1 : Box W3 (w.heap.size + 1) { data := #[] } 0 0 false := by rw [← hW]; exact box_old (box_below B1 hb2) _
  have C2 : Box W3 w2.heap.size s (a + k) n false := by rw [← hW]; exact box_new _ _ _ _ _
  have bel3 : Below w.heap.size w W3 := by rw [← hW]; exact balloc (bcall bel1 hb2) _
  generalize w2.heap.size = k2 at *
  clear hW B0 B1 hb2 bel1
  obtain ⟨⟨c00, c01, c02, c03⟩, f0, l0⟩ := C0
  obtain ⟨⟨c10, c11, c12, c13⟩, f1, l1⟩ := C1
  obtain ⟨⟨c20, c21, c22, c23⟩, f2, l2⟩ := C2
  go_region
  go_wp2
  refine bodyPost_ret (v := .tuple #[.string (s.extract a (a + k)), .agg #[.string s, .int .i64 ((a : Int) + k), .int .i64 n, .bool false]]) (by simp [results, Tryz.results35, go_sem, c10, c11, c12, c13]) rfl ⟨rfl, ?_⟩
  exact Below.drew ((((bel3.setCell (by simp) _).setCell (by simp) _).setCell (by simp) _).setCell (by simp) _)

set_option maxHeartbeats 400000 in
theorem text_no (s : ByteArray) (a n : Nat) (k : Int) (b : Bool) (w : World) (hs : s.size ≤ maxLen) (h1 : a ≤ n) (h2 : n ≤ s.size) (h3 : hasB a n k b = false) :
    Calls Tryz.prog 35 #[.agg #[.string s, .int .i64 a, .int .i64 n, .bool b], .int .i64 k] w fun e w' => e = .returned (.tuple #[.string { data := #[] }, .agg #[.string s, .int .i64 a, .int .i64 n, .bool true]]) ∧ Below w.heap.size w w' := by
  go_enter Tryz.func35, Tryz.ntmps35
  go_wp2_with fail
  refine (has_any _ _ _ _ _ _ hs h1 h2).mono ?_
  rintro e w1 ⟨rfl, hb1⟩
  obtain ⟨B0, B1, bel1⟩ : Box w1 w.heap.size s a n b ∧ Box w1 (w.heap.size + 1) { data := #[] } 0 0 false ∧ Below w.heap.size w w1 :=
    ⟨box_below (box_old (box_new _ _ _ _ _) _) hb1, by have := box_below (box_new _ _ _ _ _) hb1; simpa using this, bcall (balloc (balloc (Below.refl _ _) _) _) hb1⟩
  clear hb1
  obtain ⟨⟨c00, c01, c02, c03⟩, f0, l0⟩ := id B0
  go_wp2_with fail
  refine (spoil_any _ _ _ _ _).mono ?_
  rintro e w2 ⟨rfl, hb2⟩
  clear c00 c01 c02 c03 f0 l0
  have C1 : Box w2 (w.heap.size + 1) { data := #[] } 0 0 false := box_below B1 hb2
  have bel2 : Below w.heap.size w w2 := bcall bel1 hb2
  clear B0 B1 bel1 hb2
  obtain ⟨⟨c10, c11, c12, c13⟩, f1, l1⟩ := C1
  go_wp2
  refine bodyPost_ret (v := .tuple #[.string { data := #[] }, .agg #[.string s, .int .i64 a, .int .i64 n, .bool true]]) (by simp [results, Tryz.results35, go_sem, c10, c11, c12, c13]) rfl ⟨rfl, ?_⟩
  exact ((((bel2.setCell (by simp) _).setCell (by simp) _).setCell (by simp) _).setCell (by simp) _)

end Go.Proofs.YtpkmpinbpfblfaaGreatDoor.Cur
namespace Go.Proofs.YtpkmpinbpfblfaaGreatDoor.Cur
open Go.ChangeShapes Go.WideShapes Go.ChangeAt Go.RowKit
set_option linter.unusedVariables false
set_option maxRecDepth 100000

theorem numL_nil : numL [] = 0 := rfl

theorem number_ext (s : ByteArray) (a k : Nat) (h : a + k ≤ s.size) (hk : k ≤ 7) : (s.extract a (a + k)).size ≤ 7 := by
  simp; omega

set_option maxHeartbeats 400000 in
theorem num_yes (s : ByteArray) (a n k : Nat) (w : World) (hs : s.size ≤ maxLen) (h1 : a ≤ n) (h2 : n ≤ s.size) (h3 : a + k ≤ n) (h4 : 1 ≤ k) (h5 : k ≤ 7) :
    Calls Tryz.prog 58 #[.agg #[.string s, .int .i64 a, .int .i64 n, .bool false], .int .i64 k] w fun e w' => e = .returned (.tuple #[.int .i64 (numL ((s.data.toList.drop a).take k)), .agg #[.string s, .int .i64 ((a : Int) + k), .int .i64 n, .bool false]]) ∧ Below w.heap.size w w' := by
  go_enter Tryz.func58, Tryz.ntmps58
  go_wp2_with fail
  refine (text_yes _ _ _ _ _ hs h1 h2 h3).mono ?_
  rintro e w1 ⟨rfl, hb1⟩
  obtain ⟨B1, bel1⟩ : Box w1 (w.heap.size + 1) { data := #[] } 0 0 false ∧ Below w.heap.size w w1 :=
    ⟨by have := box_below (box_new _ _ _ _ _) hb1; simpa using this, bcall (balloc (balloc (Below.refl _ _) _) _) hb1⟩
  clear hb1
  go_wp2_with fail
  generalize hW : w1.alloc _ = W3
  have D1 : Box W3 (w.heap.size + 1) { data := #[] } 0 0 false := by rw [← hW]; exact box_old B1 _
  have D2 : Box W3 w1.heap.size s (a + k) n false := by rw [← hW]; exact box_new _ _ _ _ _
  have bel3 : Below w.heap.size w W3 := by rw [← hW]; exact balloc bel1 _
  have hlt : w.heap.size + 1 < w1.heap.size := B1.2.2
  generalize w1.heap.size = k2 at *
  clear hW B1 bel1
  obtain ⟨⟨c10, c11, c12, c13⟩, f1, l1⟩ := D1
  obtain ⟨⟨c20, c21, c22, c23⟩, f2, l2⟩ := D2
  have hx := number_ext s a k (by omega) h5
  go_region_with (go_at_call 89; refine (number_any _ _ hx).mono ?_; rintro e w' ⟨rfl, rfl⟩)
  all_goals
    go_wp2
    refine bodyPost_ret (v := .tuple #[.int .i64 (numL ((s.data.toList.drop a).take k)), .agg #[.string s, .int .i64 ((a : Int) + k), .int .i64 n, .bool false]]) (by simp [results, Tryz.results58, go_sem, c10, c11, c12, c13]) rfl ⟨rfl, ?_⟩
    exact Below.drew ((((bel3.setCell (by simp) _).setCell (by simp) _).setCell (by simp) _).setCell (by simp) _)

set_option maxHeartbeats 400000 in
theorem num_no (s : ByteArray) (a n : Nat) (k : Int) (b : Bool) (w : World) (hs : s.size ≤ maxLen) (h1 : a ≤ n) (h2 : n ≤ s.size) (h3 : hasB a n k b = false) (h4 : 1 ≤ k) (h5 : k ≤ 7) :
    Calls Tryz.prog 58 #[.agg #[.string s, .int .i64 a, .int .i64 n, .bool b], .int .i64 k] w fun e w' => e = .returned (.tuple #[.int .i64 0, .agg #[.string s, .int .i64 a, .int .i64 n, .bool true]]) ∧ Below w.heap.size w w' := by
  go_enter Tryz.func58, Tryz.ntmps58
  go_wp2_with fail
  refine (text_no _ _ _ _ _ _ hs h1 h2 h3).mono ?_
  rintro e w1 ⟨rfl, hb1⟩
  obtain ⟨B1, bel1⟩ : Box w1 (w.heap.size + 1) { data := #[] } 0 0 false ∧ Below w.heap.size w w1 :=
    ⟨by have := box_below (box_new _ _ _ _ _) hb1; simpa using this, bcall (balloc (balloc (Below.refl _ _) _) _) hb1⟩
  clear hb1
  go_wp2_with fail
  generalize hW : w1.alloc _ = W3
  have D1 : Box W3 (w.heap.size + 1) { data := #[] } 0 0 false := by rw [← hW]; exact box_old B1 _
  have D2 : Box W3 w1.heap.size s a n true := by rw [← hW]; exact box_new _ _ _ _ _
  have bel3 : Below w.heap.size w W3 := by rw [← hW]; exact balloc bel1 _
  have hlt : w.heap.size + 1 < w1.heap.size := B1.2.2
  generalize w1.heap.size = k2 at *
  clear hW B1 bel1
  obtain ⟨⟨c10, c11, c12, c13⟩, f1, l1⟩ := D1
  obtain ⟨⟨c20, c21, c22, c23⟩, f2, l2⟩ := D2
  have hx : (ByteArray.mk #[]).size ≤ 7 := by decide
  go_region_with (go_at_call 89; refine (number_any _ _ hx).mono ?_; rintro e w' ⟨rfl, rfl⟩)
  all_goals
    go_wp2
    refine bodyPost_ret (v := .tuple #[.int .i64 0, .agg #[.string s, .int .i64 a, .int .i64 n, .bool true]]) (by simp [results, Tryz.results58, go_sem, c10, c11, c12, c13, numL_nil]) rfl ⟨rfl, ?_⟩
    exact Below.drew ((((bel3.setCell (by simp) _).setCell (by simp) _).setCell (by simp) _).setCell (by simp) _)
end Go.Proofs.YtpkmpinbpfblfaaGreatDoor.Cur
namespace Go.Proofs.YtpkmpinbpfblfaaGreatDoor.Oct
open Go.ChangeShapes Go.WideShapes Go.ChangeAt Go.RowKit
set_option linter.unusedVariables false
set_option maxRecDepth 100000

theorem bool_eq {a b : Bool} (h : a = b) : Ending.returned (.bool a) = .returned (.bool b) := by rw [h]

/-- the powers of 256 -/
def pw (k : Nat) : Nat := 256 ^ k
theorem pw_succ (k : Nat) : pw (k + 1) = pw k * 256 := by unfold pw; rw [Nat.pow_succ]
theorem pw_zero : pw 0 = 1 := rfl
/-- does n go into k bytes? -/
def fitsB (n k : Int) : Bool := decide (1 ≤ k) && decide (k ≤ 7) && decide (0 ≤ n) && decide (n < (pw k.toNat : Nat))

theorem fitsB_iff (n k : Int) : fitsB n k = true ↔ 1 ≤ k ∧ k ≤ 7 ∧ 0 ≤ n ∧ n < (pw k.toNat : Nat) := by
  unfold fitsB; simp [and_assoc]

/-- the bytes of n, the highest first -/
def be (n : Nat) : Nat → List UInt8
  | 0 => []
  | k + 1 => UInt8.ofNat (n / pw k) :: be n k

theorem be_length (n k : Nat) : (be n k).length = k := by
  induction k with
  | zero => rfl
  | succ k ih => simp [be, ih]

set_option maxHeartbeats 400000 in
theorem fits_any (n k : Int) (w : World) :
    Calls Tryz.prog 79 #[.int .i64 n, .int .i64 k] w fun e w' => e = .returned (.bool (fitsB n k)) ∧ w = w' := by
  by_cases h1 : k < 1
  · go_enter Tryz.func79, Tryz.ntmps79
    go_wp2
    go_ret
    exact ⟨bool_eq (by unfold fitsB; simp; omega), rfl⟩
  · by_cases h2 : 7 < k
    · go_enter Tryz.func79, Tryz.ntmps79
      go_wp2
      go_ret
      exact ⟨bool_eq (by unfold fitsB; simp; omega), rfl⟩
    · by_cases h3 : 0 ≤ n
      · have hk : k = 1 ∨ k = 2 ∨ k = 3 ∨ k = 4 ∨ k = 5 ∨ k = 6 ∨ k = 7 := by omega
        clear h1 h2
        rcases hk with rfl | rfl | rfl | rfl | rfl | rfl | rfl
        all_goals
          go_enter Tryz.func79, Tryz.ntmps79
          go_wp2
          go_ret
          exact ⟨bool_eq (by rw [Bool.eq_iff_iff, fitsB_iff]; simp [pw]; omega), rfl⟩
      · have hk : k = 1 ∨ k = 2 ∨ k = 3 ∨ k = 4 ∨ k = 5 ∨ k = 6 ∨ k = 7 := by omega
        go_enter Tryz.func79, Tryz.ntmps79
        go_wp2
        go_ret
        exact ⟨bool_eq (by unfold fitsB; simp; omega), rfl⟩

end Go.Proofs.YtpkmpinbpfblfaaGreatDoor.Oct
namespace Go.Proofs.YtpkmpinbpfblfaaGreatDoor.Oct
open Go.ChangeShapes Go.WideShapes Go.ChangeAt Go.RowKit
set_option linter.unusedVariables false
set_option maxRecDepth 100000

theorem info5 : (Tryz.prog.info? 5).map (fun i => (i.zero, i.size, i.bytes)) = some (some (.int .u8 0), 1, 1) := by kernel_rfl

/-- bytes, as the cells of a row -/
def cellsL (l : List UInt8) : List Value := l.map fun b => Value.int .u8 b.toNat

theorem conv_row (w : World) (g c : Nat) (base : Nat) (l : List UInt8) (n : Nat) (hn : l.length = n) (h : w.ownsRow base 5 1 (.slice (some ⟨g, 0, none⟩) n c) n (cellsL l)) :
    (convert 134 9 (.slice (some ⟨g, 0, none⟩) n c)).run Tryz.prog w = .ok (.string ⟨l.toArray⟩) w := by
  subst hn
  refine run_convert_bytes_back w 134 9 5 ⟨g, 0, none⟩ c l Tryz.underlying134 Tryz.underlying5 Tryz.underlying9 fun j hj => ?_
  have := h.cellAt j (by omega)
  simp [Addr.add_lit]
  rw [this]
  simp [cellsL, hj]

set_option maxHeartbeats 400000 in
theorem zeros_mid (n : Nat) (w : World) (hn : n ≤ 1048576) :
    Calls Tryz.prog 110 #[.int .i64 n] w fun e w' => e = .returned (.string ⟨(List.replicate n (0 : UInt8)).toArray⟩) ∧ Below w.heap.size w w' := by
  obtain ⟨i0, hi, hz0, hz1, hz2⟩ := info_parts info5
  go_enter Tryz.func110, Tryz.ntmps110
  go_wp2_with (at_make; refine wpList_make_full _ rfl _ _ 134 rfl w.heap.size 5 i0 (.int .u8 0) 1 Tryz.underlying134 hi hz0 hz1 _ _ _ _ n rfl rfl rfl rfl (by rw [hz2]; omega) (by unfold maxLen; omega) (by simp) ?_)
  intro w1 hown hgrow
  have hc := conv_row w1 w.heap.size n w.heap.size (List.replicate n 0) n (by simp) (by
    have e : cellsL (List.replicate n (0 : UInt8)) = (madeCells #[Value.int .u8 0] n).toList := by
      rw [toList_madeCells_one]; simp [cellsL]
    rw [e]; exact hown)
  clear hi hz0 hz1 hz2 hown
  have HG := Lib.hid hgrow
  clear hgrow
  go_wp2
  go_ret
  exact ⟨rfl, (Below.refl _ _).grown HG.out (Nat.le_refl _) (fun k hk => by cases hk)⟩

end Go.Proofs.YtpkmpinbpfblfaaGreatDoor.Oct
namespace Go.Proofs.YtpkmpinbpfblfaaGreatDoor.Nu
open Go.ChangeShapes Go.WideShapes Go.ChangeAt Go.RowKit
open Go.Proofs.YtpkmpinbpfblfaaGreatDoor.Cur
open Go.Proofs.YtpkmpinbpfblfaaGreatDoor.Oct
set_option linter.unusedVariables false
set_option maxRecDepth 100000
set_option maxRecDepth 100000

theorem radd (s : ByteArray) (k : Nat) (h : k ≤ 6) (hk : k < s.size) :
    ((numL (s.data.toList.take k) : Nat) : Int) * 256 + (s[k].toNat : Nat) = ((numL (s.data.toList.take (k + 1)) : Nat) : Int) := by
  rw [Cur.take_snoc s k hk, numL_snoc]
  omega

set_option maxHeartbeats 800000 in
theorem rnumber (s : ByteArray) (w : World) (hs : s.size ≤ 7) :
    Calls Tryz.prog 50 #[.string s] w fun e w' => e = .returned (.int .i64 (numL s.data.toList)) ∧ w = w' := by
  go_enter Tryz.func50, Tryz.ntmps50
  go_wp2
  go_loop [3, 4] (fun n i => ∃ k : Nat, k ≤ s.size ∧ i = .int .i64 k ∧ n = .int .i64 (numL (s.data.toList.take k))) (fun _ i => s.size - (intOf i).toNat)
  case atStart => exact ⟨0, Nat.zero_le _, rfl, rfl⟩
  case round =>
    obtain ⟨k, hk, rfl, rfl⟩ := hrel
    by_cases hlt : k < s.size
    · have hr := Lib.hid (radd s k (by omega) hlt)
      have hb := num_lt6 s k (by omega) (by omega)
      have hc := s[k].toNat_lt
      have h7 : k < 7 := by omega
      go_wp2
      go_round
      case rel => exact ⟨k + 1, by omega, by go_num, congrArg (Value.int IntKind.i64) (by rw [← hr.out])⟩
      case measure => simp [intOf]; omega
    · go_wp2
      go_ret
      exact ⟨int_eq (by rw [List.take_of_length_le (by simp; omega)]), rfl⟩

theorem ext_list (s : ByteArray) (a b : Nat) : (s.extract a b).data.toList = (s.data.toList.drop a).take (b - a) := by
  simp [ByteArray.data_extract, List.extract_eq_take_drop]

theorem rnum_ext (s : ByteArray) (a b : Nat) (w : World) (h : b - a ≤ 7) :
    Calls Tryz.prog 50 #[.string (s.extract a b)] w fun e w' => e = .returned (.int .i64 (numL ((s.data.toList.drop a).take (b - a)))) ∧ w' = w := by
  rw [← ext_list]
  exact (rnumber _ _ (by simp; omega)).mono fun e w' ⟨h1, h2⟩ => ⟨h1, h2.symm⟩

/-- What a number lays: its bytes, if it fits. -/
def layN (v : Int) (n : Nat) : List UInt8 := if fitsB v n then be v.toNat n else []

theorem numL_from (l : List UInt8) : ∀ n : Nat, l.foldl (fun n c => n * 256 + c.toNat) n = n * 256 ^ l.length + numL l := by
  induction l with
  | nil => intro n; simp [numL]
  | cons c l ih =>
    intro n
    unfold numL
    rw [List.foldl_cons, List.foldl_cons, ih, ih (0 * 256 + c.toNat), List.length_cons, Nat.pow_succ, Nat.add_mul, Nat.zero_mul, Nat.zero_add, Nat.mul_assoc, Nat.mul_comm 256]
    omega

theorem numL_cons (c : UInt8) (l : List UInt8) : numL (c :: l) = c.toNat * 256 ^ l.length + numL l := by
  unfold numL
  rw [List.foldl_cons, numL_from, Nat.zero_mul, Nat.zero_add]
  rfl

theorem numL_be (n : Nat) : ∀ k, numL (be n k) = n % pw k := by
  intro k
  induction k with
  | zero => rw [pw_zero, Nat.mod_one]; rfl
  | succ k ih =>
    rw [be, numL_cons, ih, be_length, pw_succ, Nat.mod_mul]
    show _ * pw k + _ = _
    have : (UInt8.ofNat (n / pw k)).toNat = n / pw k % 256 := by simp
    rw [this, Nat.mul_comm, Nat.add_comm]

theorem numL_inj : ∀ {a b : List UInt8}, a.length = b.length → numL a = numL b → a = b := by
  intro a
  induction a with
  | nil => intro b h _; cases b with
    | nil => rfl
    | cons _ _ => simp at h
  | cons c a ih =>
    intro b h e
    cases b with
    | nil => simp at h
    | cons d b =>
      have hl : a.length = b.length := by simpa using h
      rw [numL_cons, numL_cons, hl] at e
      have h1 := numL_lt a
      have h2 := numL_lt b
      rw [hl] at h1
      have hp : 0 < 256 ^ b.length := Nat.pow_pos (by decide)
      have hq := congrArg (· / 256 ^ b.length) e
      simp only [Nat.mul_comm _ (256 ^ b.length), Nat.mul_add_div hp, Nat.div_eq_of_lt h1, Nat.div_eq_of_lt h2, Nat.add_zero] at hq
      have hc : c = d := UInt8.toNat_inj.1 hq
      subst hc
      rw [ih hl (by omega)]

theorem be_numL (l : List UInt8) (k : Nat) (h : l.length = k) : be (numL l) k = l := by
  refine numL_inj (by rw [be_length, h]) ?_
  rw [numL_be, Nat.mod_eq_of_lt]
  have := numL_lt l
  rw [h] at this
  exact this

theorem layN_numL (l : List UInt8) (k : Nat) (h : l.length = k) (h1 : 1 ≤ k) (h7 : k ≤ 7) : fitsB (numL l) k = true ∧ layN (numL l) k = l := by
  have hf : fitsB (numL l) k = true := by
    have := numL_lt l
    rw [h] at this
    rw [fitsB_iff]
    refine ⟨by omega, by omega, by omega, ?_⟩
    simpa [pw] using (Int.ofNat_lt.2 this)
  refine ⟨hf, ?_⟩
  unfold layN
  rw [if_pos hf, Int.toNat_natCast, be_numL l k h]

theorem numL_layN (v : Int) (k : Nat) (hf : fitsB v k = true) : ((numL (layN v k) : Nat) : Int) = v ∧ (layN v k).length = k := by
  obtain ⟨_, _, h0, h1⟩ := (fitsB_iff v k).1 hf
  unfold layN
  rw [if_pos hf, numL_be, be_length]
  obtain ⟨n, rfl⟩ := Int.eq_ofNat_of_zero_le h0
  have : n < pw k := by simpa using h1
  rw [Int.toNat_natCast, Nat.mod_eq_of_lt this]
  exact ⟨rfl, rfl⟩

theorem text_eq {a b : ByteArray} (h : a.data.toList = b.data.toList) : a = b := ByteArray.ext (Array.toList_inj.1 h)

/-- A number that fits has as many bytes. -/
theorem lay_len {v : Int} {k : Nat} (hf : fitsB v k = true) : (layN v k).length = k := (numL_layN v k hf).2
theorem num_fits (l : List UInt8) (k : Nat) (h : l.length = k) (h1 : 1 ≤ k) (h7 : k ≤ 7) : fitsB (numL l) k = true := (layN_numL l k h h1 h7).1
end Go.Proofs.YtpkmpinbpfblfaaGreatDoor.Nu
namespace Go.Proofs.YtpkmpinbpfblfaaGreatDoor.F1
open Go.ChangeShapes Go.WideShapes Go.ChangeAt Go.RowKit
open Go.Proofs.YtpkmpinbpfblfaaGreatDoor.Cur (numL)
open Go.Proofs.YtpkmpinbpfblfaaGreatDoor.Nu
set_option linter.unusedVariables false
set_option maxRecDepth 100000
set_option maxRecDepth 100000

/-- The i-th byte. -/
def bt (b : ByteArray) (i : Nat) : Int := ((b.data.toList.getD i 0).toNat : Int)
theorem bt_eq (b : ByteArray) (i : Nat) (h : i < b.size) : (b[i].toNat : Int) = bt b i := by
  unfold bt
  rw [List.getD_eq_getElem?_getD, List.getElem?_eq_getElem (by simpa using h)]
  rfl
theorem bt_nn (b : ByteArray) (i : Nat) : 0 ≤ bt b i := Int.natCast_nonneg _
theorem bt_lt (b : ByteArray) (i : Nat) : bt b i < 256 := by
  unfold bt
  have := UInt8.toNat_lt (b.data.toList.getD i 0)
  omega
theorem bt_at {s : ByteArray} {a b : List UInt8} {t : UInt8} {p : Nat} (h : s.data.toList = a ++ t :: b) (hp : a.length = p) : bt s p = (t.toNat : Int) := by
  subst hp
  unfold bt
  rw [h, List.getD_eq_getElem?_getD, List.getElem?_append_right (Nat.le_refl _), Nat.sub_self]
  rfl
theorem size_of {s : ByteArray} {t : List UInt8} (h : s.data.toList = t) : s.size = t.length := by rw [← h]; simp
/-- The number of one byte is that byte. -/
theorem num_one (s : ByteArray) (p : Nat) (h : p < s.size) : ((numL ((s.data.toList.drop p).take 1) : Nat) : Int) = bt s p := by
  have hp : p < s.data.toList.length := by simpa using h
  rw [← bt_eq s p h, List.drop_eq_getElem_cons hp]
  show ((0 * 256 + (s.data.toList[p]).toNat : Nat) : Int) = _
  rw [Nat.zero_mul, Nat.zero_add]
  rfl
theorem num_two (s : ByteArray) (p : Nat) (h : p + 1 < s.size) : ((numL ((s.data.toList.drop p).take 2) : Nat) : Int) = 256 * bt s p + bt s (p + 1) := by
  have hp : p < s.data.toList.length := by simp; omega
  have hq : p + 1 < s.data.toList.length := by simpa using h
  rw [← bt_eq s p (by omega), ← bt_eq s (p + 1) h, List.drop_eq_getElem_cons hp, List.drop_eq_getElem_cons hq]
  show (((0 * 256 + (s.data.toList[p]).toNat) * 256 + (s.data.toList[p + 1]).toNat : Nat) : Int) = _
  rw [Nat.zero_mul, Nat.zero_add]
  have e1 : s.data.toList[p] = s[p] := rfl
  have e2 : s.data.toList[p + 1] = s[p + 1] := rfl
  rw [e1, e2]
  push_cast
  omega

/-- A TLV: its data and its type; and with its place. -/
abbrev El := ByteArray × Int
abbrev T := Int × El
/-- A TLV's bytes. -/
def enc1 (x : El) : List UInt8 := if x.2 = 0 then [0] else UInt8.ofNat x.2.toNat :: UInt8.ofNat x.1.size :: x.1.data.toList
/-- The bytes of TLVs. -/
def encT (l : List El) : List UInt8 := l.flatMap enc1
def ok1 (x : El) : Prop := 0 ≤ x.2 ∧ x.2 ≤ 255 ∧ x.1.size ≤ 255 ∧ (x.2 = 0 → x.1 = ⟨#[]⟩)
def okT (l : List El) : Prop := ∀ x ∈ l, ok1 x
theorem okT_nil : okT [] := fun x hx => absurd hx (by simp)
theorem okT_snoc {l : List El} {x : El} (h : okT l) (hx : ok1 x) : okT (l ++ [x]) := fun y hy => by
  rcases List.mem_append.1 hy with h1 | h1
  · exact h y h1
  · rw [List.mem_singleton.1 h1]; exact hx
theorem okT_cons {l : List El} {x : El} (h : okT (x :: l)) : ok1 x ∧ okT l := ⟨h x (by simp), fun y hy => h y (by simp [hy])⟩
theorem encT_nil : encT [] = [] := rfl
theorem encT_cons (x : El) (l : List El) : encT (x :: l) = enc1 x ++ encT l := by simp [encT]
theorem encT_snoc (l : List El) (x : El) : encT (l ++ [x]) = encT l ++ enc1 x := by simp [encT]
theorem enc1_len (x : El) : (enc1 x).length = if x.2 = 0 then 1 else 2 + x.1.size := by
  unfold enc1
  split
  · rfl
  · simp; omega
theorem enc1_pos (x : El) : 1 ≤ (enc1 x).length := by rw [enc1_len]; split <;> omega
theorem len_le (l : List El) : l.length ≤ (encT l).length := by
  induction l with
  | nil => exact Nat.le_refl _
  | cons x l ih => rw [encT_cons, List.length_append, List.length_cons]; have := enc1_pos x; omega

/-- The TLV with which bytes begin, and what is behind it. -/
def cut1 : List UInt8 → Option (El × List UInt8)
  | [] => none
  | t :: r => if t.toNat = 0 then some ((⟨#[]⟩, 0), r) else
    match r with
    | [] => none
    | n :: r => if n.toNat ≤ r.length then some ((⟨(r.take n.toNat).toArray⟩, (t.toNat : Int)), r.drop n.toNat) else none
theorem cut1_zero (t : UInt8) (r : List UInt8) (h : t.toNat = 0) : cut1 (t :: r) = some ((⟨#[]⟩, 0), r) := by unfold cut1; simp [h]
theorem cut1_lone (t : UInt8) (h : ¬ t.toNat = 0) : cut1 [t] = none := by unfold cut1; simp [h]
theorem cut1_two (t n : UInt8) (r : List UInt8) (h : ¬ t.toNat = 0) : cut1 (t :: n :: r) = if n.toNat ≤ r.length then some ((⟨(r.take n.toNat).toArray⟩, (t.toNat : Int)), r.drop n.toNat) else none := by
  unfold cut1; simp only [h, if_false]
theorem cut1_some {r r' : List UInt8} {x : El} (h : cut1 r = some (x, r')) : ok1 x ∧ r = enc1 x ++ r' := by
  match r, h with
  | t :: r, h =>
    by_cases ht : t.toNat = 0
    · rw [cut1_zero t r ht] at h
      simp only [Option.some.injEq, Prod.mk.injEq] at h
      obtain ⟨rfl, rfl⟩ := h
      have : t = 0 := UInt8.toNat_inj.1 ht
      subst this
      exact ⟨⟨by simp, by simp, by show (0 : Nat) ≤ 255; omega, fun _ => rfl⟩, rfl⟩
    · match r, h with
      | [], h => rw [cut1_lone t ht] at h; cases h
      | n :: r, h =>
        rw [cut1_two t n r ht] at h
        by_cases hn : n.toNat ≤ r.length
        · rw [if_pos hn] at h
          simp only [Option.some.injEq, Prod.mk.injEq] at h
          obtain ⟨rfl, rfl⟩ := h
          have hs : (⟨(r.take n.toNat).toArray⟩ : ByteArray).size = n.toNat := by show (r.take n.toNat).toArray.size = _; rw [List.size_toArray, List.length_take]; omega
          have ht' := UInt8.toNat_lt t
          have hn' := UInt8.toNat_lt n
          refine ⟨⟨by simp only []; omega, by simp only []; omega, by simp only []; rw [hs]; omega, by simp only []; omega⟩, ?_⟩
          unfold enc1
          simp only [hs]
          rw [if_neg (by omega)]
          simp
        · rw [if_neg hn] at h; cases h
theorem cut1_enc {x : El} (h : ok1 x) (r : List UInt8) : cut1 (enc1 x ++ r) = some (x, r) := by
  obtain ⟨⟨d⟩, t⟩ := x
  obtain ⟨h0, h1, h2, h3⟩ := h
  change d.size ≤ 255 at h2
  simp only [] at h0 h1 h3
  unfold enc1
  by_cases ht : t = 0
  · subst ht
    rw [if_pos rfl, h3 rfl]
    rfl
  · rw [if_neg ht]
    have e1 : (UInt8.ofNat t.toNat).toNat = t.toNat := by rw [UInt8.toNat_ofNat']; omega
    have e2 : (UInt8.ofNat d.size).toNat = d.size := by rw [UInt8.toNat_ofNat']; omega
    show cut1 (UInt8.ofNat t.toNat :: UInt8.ofNat d.size :: (d.toList ++ r)) = _
    rw [cut1_two _ _ _ (by rw [e1]; omega), e2, if_pos (by simp), e1]
    have : ((t.toNat : Nat) : Int) = t := by omega
    rw [this, List.take_left' (by simp), List.drop_left' (by simp)]

/-- What stands where a TLV begins: one of the type 0; a type alone; one whose data aren't all there; one that is. -/
theorem step {s : ByteArray} {a r : List UInt8} {p : Nat} (h : s.data.toList = a ++ r) (hp : a.length = p) (hr : r ≠ []) : p < s.size ∧ s.size = p + r.length ∧
    ((bt s p = 0 ∧ ∃ r', cut1 r = some ((⟨#[]⟩, 0), r')) ∨ (¬ bt s p = 0 ∧ s.size < p + 2 ∧ cut1 r = none) ∨
     ∃ n : Nat, ¬ bt s p = 0 ∧ p + 2 ≤ s.size ∧ bt s (p + 1) = n ∧ n ≤ 255 ∧ ((s.size < p + 2 + n ∧ cut1 r = none) ∨ (p + 2 + n ≤ s.size ∧ ∃ x r', cut1 r = some (x, r') ∧ x.2 = bt s p ∧ x.1 = s.extract (p + 2) (p + 2 + n) ∧ x.1.size = n))) := by
  subst hp
  have hz : s.size = a.length + r.length := by rw [size_of h, List.length_append]
  match r, hr, h, hz with
  | t :: r, _, h, hz =>
    rw [List.length_cons] at hz
    refine ⟨by omega, hz, ?_⟩
    have hb := bt_at h rfl
    by_cases ht : t.toNat = 0
    · exact .inl ⟨by rw [hb, ht]; rfl, r, cut1_zero t r ht⟩
    have hb0 : ¬ bt s a.length = 0 := by rw [hb]; omega
    match r, h, hz with
    | [], h, hz => exact .inr (.inl ⟨hb0, by rw [hz]; simp, cut1_lone t ht⟩)
    | n :: r, h, hz =>
      rw [List.length_cons] at hz
      have hn' := UInt8.toNat_lt n
      have h' : s.data.toList = (a ++ [t]) ++ n :: r := by rw [h]; simp
      have hb1 : bt s (a.length + 1) = _ := bt_at h' (by simp)
      refine .inr (.inr ⟨n.toNat, hb0, by omega, hb1, by omega, ?_⟩)
      by_cases hn : n.toNat ≤ r.length
      · refine .inr ⟨by omega, _, _, by rw [cut1_two t n r ht, if_pos hn], hb.symm, ?_, ?_⟩
        · have h2 : s.data.toList = (a ++ [t, n]) ++ r := by rw [h]; simp
          refine text_eq ?_
          rw [ext_list, h2, show a.length + 2 = (a ++ [t, n]).length by simp, List.drop_left, Nat.add_sub_cancel_left]
        · show (r.take n.toNat).toArray.size = _
          rw [List.size_toArray, List.length_take]; omega
      · exact .inl ⟨by omega, by rw [cut1_two t n r ht, if_neg hn]⟩

theorem all_bytes : ∀ (n : Nat) (s : List UInt8), s.length ≤ n → ∃ l r, okT l ∧ s = encT l ++ r ∧ cut1 r = none
  | 0, s, h => ⟨[], s, okT_nil, rfl, by rw [List.length_eq_zero_iff.1 (Nat.le_zero.1 h)]; rfl⟩
  | n + 1, s, h => by
    cases hc : cut1 s with
    | none => exact ⟨[], s, okT_nil, rfl, hc⟩
    | some p =>
      obtain ⟨x, r'⟩ := p
      obtain ⟨ho, he⟩ := cut1_some hc
      have hl : r'.length ≤ n := by
        have := congrArg List.length he
        rw [List.length_append] at this
        have := enc1_pos x
        omega
      obtain ⟨l, r, h1, h2, h3⟩ := all_bytes n r' hl
      refine ⟨x :: l, r, fun y hy => ?_, by rw [he, encT_cons, h2, List.append_assoc], h3⟩
      rcases List.mem_cons.1 hy with rfl | hy
      · exact ho
      · exact h1 y hy
theorem enc_inj {r r' : List UInt8} (hr : cut1 r = none) (hr' : cut1 r' = none) : ∀ {l l' : List El}, okT l → okT l' → encT l ++ r = encT l' ++ r' → l = l' ∧ r = r'
  | [], [], _, _, h => ⟨rfl, by simpa [encT] using h⟩
  | [], x :: l', _, h', h => by
    rw [encT_nil, List.nil_append, encT_cons, List.append_assoc] at h
    rw [h, cut1_enc (okT_cons h').1] at hr
    cases hr
  | x :: l, [], h', _, h => by
    rw [encT_nil, List.nil_append, encT_cons, List.append_assoc] at h
    rw [← h, cut1_enc (okT_cons h').1] at hr'
    cases hr'
  | x :: l, y :: l', h1, h2, h => by
    rw [encT_cons, encT_cons, List.append_assoc, List.append_assoc] at h
    have e := congrArg cut1 h
    rw [cut1_enc (okT_cons h1).1, cut1_enc (okT_cons h2).1] at e
    simp only [Option.some.injEq, Prod.mk.injEq] at e
    obtain ⟨rfl, e⟩ := e
    obtain ⟨rfl, rfl⟩ := enc_inj hr hr' (okT_cons h1).2 (okT_cons h2).2 e
    exact ⟨rfl, rfl⟩

/-- TLVs, each with its place, the first at p. -/
def placed (p : Int) : List El → List T
  | [] => []
  | x :: l => (p, x) :: placed (p + ((enc1 x).length : Int)) l
theorem placed_len : ∀ (l : List El) (p : Int), (placed p l).length = l.length
  | [], _ => rfl
  | x :: l, p => by rw [placed, List.length_cons, List.length_cons, placed_len]
theorem placed_append : ∀ (a b : List El) (p : Int), placed p (a ++ b) = placed p a ++ placed (p + ((encT a).length : Int)) b
  | [], b, p => by simp [placed, encT]
  | x :: a, b, p => by
    rw [List.cons_append, placed, placed, placed_append, encT_cons, List.length_append, List.cons_append]
    congr 3
    push_cast
    omega
theorem placed_snoc (l : List El) (x : El) (p : Int) : placed p (l ++ [x]) = placed p l ++ [(p + ((encT l).length : Int), x)] := by
  rw [placed_append]; rfl

/-- The TLVs whose bytes these are, 0 and no error; or none, the place of the first that isn't all there, and the error. -/
def IsT (base : Int) (s : ByteArray) (o : List T × Int × Int) : Prop :=
  ∃ l r, okT l ∧ s.data.toList = encT l ++ r ∧ cut1 r = none ∧ o = if r = [] then (placed base l, 0, 0) else ([], base + ((encT l).length : Int), 2)
theorem isT_some (base : Int) (s : ByteArray) : ∃ o, IsT base s o := by
  obtain ⟨l, r, h1, h2, h3⟩ := all_bytes _ s.data.toList (Nat.le_refl _)
  exact ⟨_, l, r, h1, h2, h3, rfl⟩
theorem isT_one {base : Int} {s : ByteArray} {o o' : List T × Int × Int} (h : IsT base s o) (h' : IsT base s o') : o = o' := by
  obtain ⟨l, r, h1, h2, h3, rfl⟩ := h
  obtain ⟨l', r', h1', h2', h3', rfl⟩ := h'
  rw [h2] at h2'
  obtain ⟨rfl, rfl⟩ := enc_inj h3 h3' h1 h1' h2'
  rfl
noncomputable def outT (base : Int) (s : ByteArray) : List T × Int × Int := (isT_some base s).choose
theorem out_is (base : Int) (s : ByteArray) : IsT base s (outT base s) := (isT_some base s).choose_spec
theorem out_of {base : Int} {s : ByteArray} {o : List T × Int × Int} (h : IsT base s o) : outT base s = o := isT_one (out_is base s) h
theorem out_yes {base : Int} {s : ByteArray} {l : List El} (ho : okT l) (hs : s.data.toList = encT l) : outT base s = (placed base l, 0, 0) :=
  out_of ⟨l, [], ho, by rw [hs, List.append_nil], rfl, by rw [if_pos rfl]⟩
theorem out_no {base : Int} {s : ByteArray} {l : List El} {r : List UInt8} (ho : okT l) (hs : s.data.toList = encT l ++ r) (hr : cut1 r = none) (hn : r ≠ []) : outT base s = ([], base + ((encT l).length : Int), 2) :=
  out_of ⟨l, r, ho, hs, hr, by rw [if_neg hn]⟩
theorem out_cases (base : Int) (s : ByteArray) : (∃ l, okT l ∧ s.data.toList = encT l ∧ outT base s = (placed base l, 0, 0)) ∨ ∃ l r, okT l ∧ s.data.toList = encT l ++ r ∧ cut1 r = none ∧ r ≠ [] ∧ outT base s = ([], base + ((encT l).length : Int), 2) := by
  obtain ⟨l, r, h1, h2, h3⟩ := all_bytes _ s.data.toList (Nat.le_refl _)
  by_cases hr : r = []
  · subst hr
    rw [List.append_nil] at h2
    exact .inl ⟨l, h1, h2, out_yes h1 h2⟩
  · exact .inr ⟨l, r, h1, h2, h3, hr, out_no h1 h2 h3 hr⟩
theorem out_size (base : Int) (s : ByteArray) : (outT base s).1.length ≤ s.size := by
  rcases out_cases base s with ⟨l, _, h, e⟩ | ⟨l, r, _, _, _, _, e⟩
  · rw [e, size_of h]
    have := len_le l
    simp only [placed_len]
    omega
  · rw [e]; exact Nat.zero_le _

/-- The first fault of a datagram's head, and where it is; none. -/
def head (b : ByteArray) : Option (Int × Int) :=
  if 65535 < b.size then some (65535, 10) else if b.size < 4 then some ((b.size : Int), 2) else if ¬ bt b 0 = 42 then some (0, 4) else if ¬ bt b 1 = 2 then some (1, 4)
  else if (b.size : Int) < 4 + (256 * bt b 2 + bt b 3) then some ((b.size : Int), 2) else none
def bodyN (b : ByteArray) : Nat := (256 * bt b 2 + bt b 3).toNat
theorem bodyN_eq (b : ByteArray) : (bodyN b : Int) = 256 * bt b 2 + bt b 3 := by
  unfold bodyN
  have := bt_nn b 2
  have := bt_nn b 3
  omega
theorem bodyN_le (b : ByteArray) : (bodyN b : Int) ≤ 65535 := by
  rw [bodyN_eq]
  have := bt_lt b 2
  have := bt_lt b 3
  omega
/-- The body, its place and the error. -/
def outB (b : ByteArray) : ByteArray × Int × Int := match head b with
  | some (i, e) => (⟨#[]⟩, i, e)
  | none => (b.extract 4 (4 + bodyN b), 0, 0)
def trail (b : ByteArray) : ByteArray := b.extract (4 + bodyN b) b.size
theorem head_no {b : ByteArray} (h : head b = none) : b.size ≤ 65535 ∧ 4 ≤ b.size ∧ bt b 0 = 42 ∧ bt b 1 = 2 ∧ 4 + bodyN b ≤ b.size := by
  have e := bodyN_eq b
  unfold head at h
  split at h
  · cases h
  split at h
  · cases h
  split at h
  · cases h
  split at h
  · cases h
  split at h
  · cases h
  simp only [Decidable.not_not] at *
  refine ⟨by omega, by omega, by assumption, by assumption, by omega⟩
theorem head_yes {b : ByteArray} (h1 : b.size ≤ 65535) (h2 : 4 ≤ b.size) (h3 : bt b 0 = 42) (h4 : bt b 1 = 2) (h5 : 4 + bodyN b ≤ b.size) : head b = none := by
  have e := bodyN_eq b
  unfold head
  rw [if_neg (by omega), if_neg (by omega), if_neg (by omega), if_neg (by omega), if_neg (by omega)]
/-- The bytes of a TLV, and whether it has them. -/
def putB (t : Int) (d : ByteArray) : Bool := decide (1 ≤ t) && decide (t ≤ 255) && decide (d.size ≤ 255)
def putO (t : Int) (d : ByteArray) : ByteArray := if putB t d = true then ⟨(UInt8.ofNat t.toNat :: UInt8.ofNat d.size :: d.data.toList).toArray⟩ else ⟨#[]⟩
theorem put_ok {x : El} (h : ok1 x) (h0 : ¬ x.2 = 0) : putB x.2 x.1 = true ∧ putO x.2 x.1 = ⟨(enc1 x).toArray⟩ := by
  obtain ⟨a, b, c, _⟩ := h
  have e : putB x.2 x.1 = true := by unfold putB; simp; omega
  refine ⟨e, ?_⟩
  unfold putO enc1
  rw [if_pos e, if_neg h0]
end Go.Proofs.YtpkmpinbpfblfaaGreatDoor.F1
namespace Go.Proofs.YtpkmpinbpfblfaaGreatDoor.Ms
open Go.ChangeShapes Go.WideShapes Go.ChangeAt Go.RowKit
set_option linter.unusedVariables false
set_option maxRecDepth 100000

/-- What stands in a list: a text and a number. -/
abbrev El := ByteArray × Int

/-- The elements of a list of Dest (text, number) stand in w. -/
def DRow (w : World) (a : Option Addr) (l : List El) : Prop :=
  ∀ i (h : i < l.length), ∃ p, a = some p ∧ p.block < w.heap.size ∧ w.cell? (p.add (i * 2)) = some (.string l[i].1) ∧ w.cell? ((p.add (i * 2)).add 1) = some (.int .i64 l[i].2)
/-- The elements of a list of Sub (number, text) stand in w. -/
def SRow (w : World) (a : Option Addr) (l : List El) : Prop :=
  ∀ i (h : i < l.length), ∃ p, a = some p ∧ p.block < w.heap.size ∧ w.cell? (p.add (i * 2)) = some (.int .i64 l[i].2) ∧ w.cell? ((p.add (i * 2)).add 1) = some (.string l[i].1)

theorem add_block (p : Addr) (n : Nat) : (p.add n).block = p.block := by unfold Addr.add; split <;> rfl

theorem DRow.below {w w' : World} {a : Option Addr} {l : List El} (h : DRow w a l) (hb : Below w.heap.size w w') : DRow w' a l := by
  intro i hi
  obtain ⟨p, h1, h2, h3, h4⟩ := h i hi
  refine ⟨p, h1, Nat.lt_of_lt_of_le h2 hb.size, ?_, ?_⟩
  · rw [hb.cell (by rw [add_block]; exact h2)]; exact h3
  · rw [hb.cell (by rw [add_block, add_block]; exact h2)]; exact h4
theorem SRow.below {w w' : World} {a : Option Addr} {l : List El} (h : SRow w a l) (hb : Below w.heap.size w w') : SRow w' a l := by
  intro i hi
  obtain ⟨p, h1, h2, h3, h4⟩ := h i hi
  refine ⟨p, h1, Nat.lt_of_lt_of_le h2 hb.size, ?_, ?_⟩
  · rw [hb.cell (by rw [add_block]; exact h2)]; exact h3
  · rw [hb.cell (by rw [add_block, add_block]; exact h2)]; exact h4
theorem DRow.nil (w : World) (a : Option Addr) : DRow w a [] := fun i hi => absurd hi (by simp)
theorem take_two {α : Type} (x y : List α) (k : Nat) (hx : k < x.length) (hy : k < y.length) (h : x.take k = y.take k) (he : x[k] = y[k]) : x.take (k + 1) = y.take (k + 1) := by
  rw [List.take_succ_eq_append_getElem hx, List.take_succ_eq_append_getElem hy, h, he]

/-- A message. -/
structure M where
  kind : Int
  cmd : Int
  ver : Int
  auth : ByteArray
  family : Int
  ae : Int
  pfx : ByteArray
  plen : Int
  tag : Int
  next : ByteArray
  metric : Int
  id : ByteArray
  seq : Int
  seq2 : Int
  interval : Int
  flags : Int
  hops : Int
  nonce : Int
  cost : Int
  addr : ByteArray
  orig : ByteArray
  la : Option Addr
  ll : List El
  lc : Nat
  typ : Int
  data : ByteArray
  sa : Option Addr
  sl : List El
  sc : Nat

namespace M
def list (m : M) : Value := .slice m.la m.ll.length m.lc
def subs (m : M) : Value := .slice m.sa m.sl.length m.sc
def cells (m : M) : Array Value := #[.int .i64 m.kind, .int .i64 m.cmd, .int .i64 m.ver, .string m.auth, .int .i64 m.family, .int .i64 m.ae, .string m.pfx, .int .i64 m.plen, .int .i64 m.tag, .string m.next, .int .i64 m.metric, .string m.id, .int .i64 m.seq, .int .i64 m.seq2, .int .i64 m.interval, .int .i64 m.flags, .int .i64 m.hops, .int .i64 m.nonce, .int .i64 m.cost, .string m.addr, .string m.orig, m.list, .int .i64 m.typ, .string m.data, m.subs]
/-- The message's lists stand in w, and aren't long. -/
structure In (m : M) (w : World) : Prop where
  d : DRow w m.la m.ll
  s : SRow w m.sa m.sl
  dl : m.ll.length ≤ 1048576
  sl : m.sl.length ≤ 1048576
theorem In.below {m : M} {w w' : World} (h : m.In w) (hb : Below w.heap.size w w') : m.In w' := ⟨h.d.below hb, h.s.below hb, h.dl, h.sl⟩
/-- Are they the same, but for their lists? -/
def flatE (a b : M) : Bool := a.kind == b.kind && (a.cmd == b.cmd && (a.ver == b.ver && (a.auth.toList == b.auth.toList && (a.family == b.family && (a.ae == b.ae && (a.pfx.toList == b.pfx.toList && (a.plen == b.plen && (a.tag == b.tag && (a.next.toList == b.next.toList && (a.metric == b.metric && (a.id.toList == b.id.toList && (a.seq == b.seq && (a.seq2 == b.seq2 && (a.interval == b.interval && (a.flags == b.flags && (a.hops == b.hops && (a.nonce == b.nonce && (a.cost == b.cost && (a.addr.toList == b.addr.toList && (a.orig.toList == b.orig.toList && (a.typ == b.typ && a.data.toList == b.data.toList)))))))))))))))))))))
/-- Are they the same? -/
def same (a b : M) : Bool := flatE a b && (decide (a.ll = b.ll) && decide (a.sl = b.sl))
/-- A message without anything. -/
def zero : M := ⟨0, 0, 0, ByteArray.empty, 0, 0, ByteArray.empty, 0, 0, ByteArray.empty, 0, ByteArray.empty, 0, 0, 0, 0, 0, 0, 0, ByteArray.empty, ByteArray.empty, none, [], 0, 0, ByteArray.empty, none, [], 0⟩
end M

theorem eqF_int {P : Program} {W : World} {d : Nat} {f : Field} {fs : List Field} {xs ys : Array Value} {k k' : IntKind} {a b : Int} {r : Bool} (hn : f.name ≠ "_") (ht : P.underlying f.type = some (.int k'))
    (hx : (part f.type xs f.offset).run P W = .ok (.int k a) W) (hy : (part f.type ys f.offset).run P W = .ok (.int k b) W) (h : (Op.eqFields (d + 1) xs ys fs).run P W = .ok r W) :
    (Op.eqFields (d + 1) xs ys (f :: fs)).run P W = .ok (a == b && r) W := by
  simp only [Op.eqFields, ne_eq, hn, not_false_eq_true, if_true, Sem.run_bind, hx, hy, Result.andThen_ok, run_equalIn_int W d f.type k k' a b ht, Sem.run_ite, h, Sem.run_pure]
  cases a == b <;> simp
theorem eqF_str {P : Program} {W : World} {d : Nat} {f : Field} {fs : List Field} {xs ys : Array Value} {a b : ByteArray} {r : Bool} (hn : f.name ≠ "_") (ht : P.underlying f.type = some .string)
    (hx : (part f.type xs f.offset).run P W = .ok (.string a) W) (hy : (part f.type ys f.offset).run P W = .ok (.string b) W) (h : (Op.eqFields (d + 1) xs ys fs).run P W = .ok r W) :
    (Op.eqFields (d + 1) xs ys (f :: fs)).run P W = .ok (a.toList == b.toList && r) W := by
  simp only [Op.eqFields, ne_eq, hn, not_false_eq_true, if_true, Sem.run_bind, hx, hy, Result.andThen_ok, run_equalIn_string W d f.type a b ht, Sem.run_ite, h, Sem.run_pure]
  cases a.toList == b.toList <;> simp

def elE (x y : El) : Bool := decide (x = y)
theorem bytes_beq (a b : ByteArray) : (a.toList == b.toList) = decide (a = b) := by
  rw [← beq_toListBytes]
  by_cases h : a = b
  · subst h; rw [beq_toListBytes]; simp
  · have : (a == b) = false := by
      rw [beq_toListBytes]
      simp only [ByteArray.toList_eq, beq_eq_false_iff_ne, ne_eq]
      intro h2
      exact h (ByteArray.ext (Array.ext' h2))
    rw [this]; simp [h]
theorem elE_eq (x y : El) : elE x y = (x.1.toList == y.1.toList && (x.2 == y.2 && true)) := by
  obtain ⟨a, n⟩ := x
  obtain ⟨b, m⟩ := y
  unfold elE
  rw [bytes_beq, Bool.and_true]
  by_cases h1 : a = b <;> by_cases h2 : n = m <;> simp [h1, h2]
theorem elE_eq' (x y : El) : elE x y = (x.2 == y.2 && (x.1.toList == y.1.toList && true)) := by
  rw [elE_eq, Bool.and_true, Bool.and_true, Bool.and_comm]

theorem run_neqDest (x y : El) (W : World) : (binOp .neq 71 (.agg #[.string x.1, .int .i64 x.2]) (.agg #[.string y.1, .int .i64 y.2])).run Tryz.prog W = .ok (.bool (!elE x y)) W := by
  have hf : Tryz.prog.underlying 71 = some (.struct (Tryz.prog.fieldsOf 71)) := by kernel_rfl
  have hp : Tryz.prog.stoodInHeld 71 = false := by kernel_rfl
  have hq : (Op.equalIn 10000 71 (.agg #[.string x.1, .int .i64 x.2]) (.agg #[.string y.1, .int .i64 y.2])).run Tryz.prog W = .ok (elE x y) W := by
    rw [run_equalIn_struct W 9999 71 _ _ hf hp, elE_eq]
    simp only [Program.fieldsOf, Tryz.underlying71]
    refine eqF_str (by decide) Tryz.underlying9 rfl rfl ?_
    refine eqF_int (by decide) Tryz.underlying3 rfl rfl ?_
    rfl
  rw [run_neq_struct, hq]; rfl
theorem run_neqSub (x y : El) (W : World) : (binOp .neq 73 (.agg #[.int .i64 x.2, .string x.1]) (.agg #[.int .i64 y.2, .string y.1])).run Tryz.prog W = .ok (.bool (!elE x y)) W := by
  have hf : Tryz.prog.underlying 73 = some (.struct (Tryz.prog.fieldsOf 73)) := by kernel_rfl
  have hp : Tryz.prog.stoodInHeld 73 = false := by kernel_rfl
  have hq : (Op.equalIn 10000 73 (.agg #[.int .i64 x.2, .string x.1]) (.agg #[.int .i64 y.2, .string y.1])).run Tryz.prog W = .ok (elE x y) W := by
    rw [run_equalIn_struct W 9999 73 _ _ hf hp, elE_eq']
    simp only [Program.fieldsOf, Tryz.underlying73]
    refine eqF_int (by decide) Tryz.underlying3 rfl rfl ?_
    refine eqF_str (by decide) Tryz.underlying9 rfl rfl ?_
    rfl
  rw [run_neq_struct, hq]; rfl
theorem run_guardDest (x y : El) (o p : Operand) (W : World) : (eqGuard .neq 71 o p (.agg #[.string x.1, .int .i64 x.2]) (.agg #[.string y.1, .int .i64 y.2])).run Tryz.prog W = .ok () W := run_eqGuard_agg W .neq _ o p _ _ (by kernel_rfl)
theorem run_guardSub (x y : El) (o p : Operand) (W : World) : (eqGuard .neq 73 o p (.agg #[.int .i64 x.2, .string x.1]) (.agg #[.int .i64 y.2, .string y.1])).run Tryz.prog W = .ok () W := run_eqGuard_agg W .neq _ o p _ _ (by kernel_rfl)

theorem indexD (p : Addr) (n c i : Nat) (h : i < n) (W : World) : (Instr.indexAt 40 (.slice (some p) n c) (.int .i64 (i : Int))).run Tryz.prog W = .ok (.pointer (some (p.add (i * 2)))) W := by
  have he : Tryz.prog.elem 40 = 71 := by simp [Program.elem, Tryz.underlying40]
  have hz : (sizeOf 71).run Tryz.prog W = .ok 2 W := by go_simp
  rw [run_indexAt_slice W 40 p n c .i64 (i : Int) (by rw [he]; exact Tryz.underlying40), if_pos (by omega), he, hz]
  rfl
theorem indexS (p : Addr) (n c i : Nat) (h : i < n) (W : World) : (Instr.indexAt 41 (.slice (some p) n c) (.int .i64 (i : Int))).run Tryz.prog W = .ok (.pointer (some (p.add (i * 2)))) W := by
  have he : Tryz.prog.elem 41 = 73 := by simp [Program.elem, Tryz.underlying41]
  have hz : (sizeOf 73).run Tryz.prog W = .ok 2 W := by go_simp
  rw [run_indexAt_slice W 41 p n c .i64 (i : Int) (by rw [he]; exact Tryz.underlying41), if_pos (by omega), he, hz]
  rfl
theorem add_one (p : Addr) : p.add 1 = ⟨p.block, p.off + 1, none⟩ := rfl
theorem bool_eq {a b : Bool} (h : a = b) : Ending.returned (.bool a) = .returned (.bool b) := by rw [h]
theorem bcall {w W w1 : World} (h : Below w.heap.size w W) (hb : Below W.heap.size W w1) : Below w.heap.size w w1 := h.trans (hb.mono h.size)
theorem balloc {w W : World} (h : Below w.heap.size w W) (o : Obj) : Below w.heap.size w (W.alloc o) := h.alloc h.size o
end Go.Proofs.YtpkmpinbpfblfaaGreatDoor.Ms
namespace Go.Proofs.YtpkmpinbpfblfaaGreatDoor.Eq
open Go.ChangeShapes Go.WideShapes Go.ChangeAt Go.RowKit
open Go.Proofs.YtpkmpinbpfblfaaGreatDoor.Ms
set_option linter.unusedVariables false
set_option maxRecDepth 100000

set_option maxHeartbeats 1600000 in
theorem rdests_any (a b : Option Addr) (ca cb : Nat) (x y : List El) (w : World) (hx : DRow w a x) (hy : DRow w b y) (lx : x.length ≤ 1048576) (ly : y.length ≤ 1048576) :
    Calls Tryz.prog 23 #[.slice a x.length ca, .slice b y.length cb] w fun e w' => e = .returned (.bool (decide (x = y))) ∧ Below w.heap.size w w' := by
  by_cases hl : x.length = y.length
  · have HL := Lib.hid hl
    go_enter Tryz.func23, Tryz.ntmps23
    go_wp2
    go_loopw [5] (fun i wr => ∃ k : Nat, k ≤ x.length ∧ i = .int .i64 k ∧ Hid (x.take k = y.take k) ∧ Hid (Below w.heap.size w wr)) (fun i _ => x.length - (intOf i).toNat)
    case atStart => exact ⟨0, Nat.zero_le _, rfl, Lib.hid rfl, Lib.hid (Below.refl _ _)⟩
    case round =>
      obtain ⟨k, hk, rfl, HT, HB⟩ := hrel
      by_cases hlt : k < x.length
      · have hlt2 : k < y.length := by omega
        obtain ⟨p, rfl, _, c0, c1⟩ := (hx.below HB.out) k hlt
        obtain ⟨q, rfl, _, d0, d1⟩ := (hy.below HB.out) k hlt2
        have i0 := indexD p x.length ca k hlt
        have i1 := indexD q y.length cb k hlt2
        have g0 := run_neqDest x[k] y[k]
        have g1 := run_guardDest x[k] y[k]
        have HS := Lib.hid (take_two x y k hlt hlt2 HT.out)
        have HD := Lib.hid (show x = y → x[k] = y[k] from fun h => by simp [h])
        clear HT hx hy
        generalize x[k] = u at *
        generalize y[k] = v at *
        rw [add_one] at c1 d1
        by_cases he : u = v
        · have g2 : elE u v = true := by simp [elE, he]
          have HE := Lib.hid he
          clear he
          go_wp2
          go_quiet (fail)
          go_wp2
          go_roundw
          case rel => exact ⟨k + 1, hlt, by go_num, Lib.hid (HS.out HE.out), Lib.hid (below_drewN HB.out _)⟩
          case measure => simp [intOf]; omega
        · have g2 : elE u v = false := by simp [elE, he]
          have HE := Lib.hid he
          clear he
          go_wp2
          go_quiet (fail)
          go_wp2
          go_ret
          exact ⟨bool_eq (by simp; intro h; exact HE.out (HD.out h)), below_drewN HB.out _⟩
      · obtain rfl : k = x.length := by omega
        have he : x = y := by
          have h := HT.out
          rwa [List.take_length, HL.out, List.take_length] at h
        have HE := Lib.hid he
        clear he
        go_wp2
        go_ret
        exact ⟨bool_eq (by simpa using HE.out), HB.out⟩
  · go_enter Tryz.func23, Tryz.ntmps23
    go_wp2
    go_ret
    exact ⟨bool_eq (by simp; intro h; exact hl (by rw [h])), Below.refl _ _⟩
set_option maxHeartbeats 1600000 in
theorem rsubs_any (a b : Option Addr) (ca cb : Nat) (x y : List El) (w : World) (hx : SRow w a x) (hy : SRow w b y) (lx : x.length ≤ 1048576) (ly : y.length ≤ 1048576) :
    Calls Tryz.prog 24 #[.slice a x.length ca, .slice b y.length cb] w fun e w' => e = .returned (.bool (decide (x = y))) ∧ Below w.heap.size w w' := by
  by_cases hl : x.length = y.length
  · have HL := Lib.hid hl
    go_enter Tryz.func24, Tryz.ntmps24
    go_wp2
    go_loopw [5] (fun i wr => ∃ k : Nat, k ≤ x.length ∧ i = .int .i64 k ∧ Hid (x.take k = y.take k) ∧ Hid (Below w.heap.size w wr)) (fun i _ => x.length - (intOf i).toNat)
    case atStart => exact ⟨0, Nat.zero_le _, rfl, Lib.hid rfl, Lib.hid (Below.refl _ _)⟩
    case round =>
      obtain ⟨k, hk, rfl, HT, HB⟩ := hrel
      by_cases hlt : k < x.length
      · have hlt2 : k < y.length := by omega
        obtain ⟨p, rfl, _, c0, c1⟩ := (hx.below HB.out) k hlt
        obtain ⟨q, rfl, _, d0, d1⟩ := (hy.below HB.out) k hlt2
        have i0 := indexS p x.length ca k hlt
        have i1 := indexS q y.length cb k hlt2
        have g0 := run_neqSub x[k] y[k]
        have g1 := run_guardSub x[k] y[k]
        have HS := Lib.hid (take_two x y k hlt hlt2 HT.out)
        have HD := Lib.hid (show x = y → x[k] = y[k] from fun h => by simp [h])
        clear HT hx hy
        generalize x[k] = u at *
        generalize y[k] = v at *
        rw [add_one] at c1 d1
        by_cases he : u = v
        · have g2 : elE u v = true := by simp [elE, he]
          have HE := Lib.hid he
          clear he
          go_wp2
          go_quiet (fail)
          go_wp2
          go_roundw
          case rel => exact ⟨k + 1, hlt, by go_num, Lib.hid (HS.out HE.out), Lib.hid (below_drewN HB.out _)⟩
          case measure => simp [intOf]; omega
        · have g2 : elE u v = false := by simp [elE, he]
          have HE := Lib.hid he
          clear he
          go_wp2
          go_quiet (fail)
          go_wp2
          go_ret
          exact ⟨bool_eq (by simp; intro h; exact HE.out (HD.out h)), below_drewN HB.out _⟩
      · obtain rfl : k = x.length := by omega
        have he : x = y := by
          have h := HT.out
          rwa [List.take_length, HL.out, List.take_length] at h
        have HE := Lib.hid he
        clear he
        go_wp2
        go_ret
        exact ⟨bool_eq (by simpa using HE.out), HB.out⟩
  · go_enter Tryz.func24, Tryz.ntmps24
    go_wp2
    go_ret
    exact ⟨bool_eq (by simp; intro h; exact hl (by rw [h])), Below.refl _ _⟩
end Go.Proofs.YtpkmpinbpfblfaaGreatDoor.Eq
namespace Go.Proofs.YtpkmpinbpfblfaaGreatDoor.Box
open Go.ChangeShapes Go.WideShapes Go.ChangeAt Go.RowKit
open Go.Proofs.YtpkmpinbpfblfaaGreatDoor.Ms
set_option linter.unusedVariables false
set_option maxRecDepth 100000

theorem below_setRow {B : Nat} {a w : World} (h : Below B a w) {g : Nat} (hg : B ≤ g) (cs : Array Value) : Below B a (w.setRow g cs) :=
  h.trans ⟨rfl, rfl, rfl, by simp, fun k hk => setRow_other w g k cs (by omega)⟩

/-- Message m stands in block b. -/
def Bx (w : World) (b : Nat) (m : M) : Prop := w.heap[b]? = some (.cells m.cells 43 (0, 0))
theorem Bx.lt {w : World} {b : Nat} {m : M} (h : Bx w b m) : b < w.heap.size := (Array.getElem?_eq_some_iff.1 h).1
theorem Bx.below {w w' : World} {b : Nat} {m : M} (h : Bx w b m) (hb : Below w.heap.size w w') : Bx w' b m := (hb.block b h.lt).trans h
theorem Bx.new (w : World) (m : M) : Bx (w.alloc (.cells m.cells 43)) w.heap.size m := heap_alloc_new w _
theorem Bx.old {w : World} {b : Nat} {m : M} (h : Bx w b m) (o : Obj) : Bx (w.alloc o) b m := (heap_alloc_old w o h.lt).trans h
theorem Bx.row {w : World} {g b : Nat} {m : M} (h : Bx w b m) (hn : b ≠ g) (cs : Array Value) : Bx (w.setRow g cs) b m := (setRow_other w g b cs hn).trans h
theorem Bx.put {w : World} {b : Nat} {m m' : M} (h : Bx w b m) : Bx (w.setRow b m'.cells) b m' := setRow_heap w b m.cells m'.cells _ _ h
theorem Bx.set {w : World} {b i : Nat} {m m' : M} {v : Value} (h : Bx w b m) (hm : m.cells.setIfInBounds i v = m'.cells) : Bx (w.setCell ⟨b, i, none⟩ v) b m' := by
  have := heap_setCell_same w b i m.cells 43 v h
  rw [hm] at this
  exact this
theorem Bx.off {w : World} {b : Nat} {m : M} (h : Bx w b m) {p : Addr} (hn : b ≠ p.block) (v : Value) : Bx (w.setCell p v) b m := (heap_setCell_other w p b v hn).trans h
theorem Bx.cell {w : World} {b : Nat} {m : M} (h : Bx w b m) (j : Nat) (v : Value) (hv : m.cells[j]? = some v) : w.cell? ⟨b, j, none⟩ = some v := by
  rw [cell_of_row w b j m.cells _ _ h, hv]
theorem Bx.frozen {w : World} {b : Nat} {m : M} (h : Bx w b m) (j : Nat) : w.frozen? ⟨b, j, none⟩ = false := frozen_of_row w b j m.cells _ h

structure Cs (w : World) (b : Nat) (m : M) : Prop where
  c0 : w.cell? ⟨b, 0, none⟩ = some (.int .i64 m.kind)
  c1 : w.cell? ⟨b, 1, none⟩ = some (.int .i64 m.cmd)
  c2 : w.cell? ⟨b, 2, none⟩ = some (.int .i64 m.ver)
  c3 : w.cell? ⟨b, 3, none⟩ = some (.string m.auth)
  c4 : w.cell? ⟨b, 4, none⟩ = some (.int .i64 m.family)
  c5 : w.cell? ⟨b, 5, none⟩ = some (.int .i64 m.ae)
  c6 : w.cell? ⟨b, 6, none⟩ = some (.string m.pfx)
  c7 : w.cell? ⟨b, 7, none⟩ = some (.int .i64 m.plen)
  c8 : w.cell? ⟨b, 8, none⟩ = some (.int .i64 m.tag)
  c9 : w.cell? ⟨b, 9, none⟩ = some (.string m.next)
  c10 : w.cell? ⟨b, 10, none⟩ = some (.int .i64 m.metric)
  c11 : w.cell? ⟨b, 11, none⟩ = some (.string m.id)
  c12 : w.cell? ⟨b, 12, none⟩ = some (.int .i64 m.seq)
  c13 : w.cell? ⟨b, 13, none⟩ = some (.int .i64 m.seq2)
  c14 : w.cell? ⟨b, 14, none⟩ = some (.int .i64 m.interval)
  c15 : w.cell? ⟨b, 15, none⟩ = some (.int .i64 m.flags)
  c16 : w.cell? ⟨b, 16, none⟩ = some (.int .i64 m.hops)
  c17 : w.cell? ⟨b, 17, none⟩ = some (.int .i64 m.nonce)
  c18 : w.cell? ⟨b, 18, none⟩ = some (.int .i64 m.cost)
  c19 : w.cell? ⟨b, 19, none⟩ = some (.string m.addr)
  c20 : w.cell? ⟨b, 20, none⟩ = some (.string m.orig)
  c21 : w.cell? ⟨b, 21, none⟩ = some (.slice m.la m.ll.length m.lc)
  c22 : w.cell? ⟨b, 22, none⟩ = some (.int .i64 m.typ)
  c23 : w.cell? ⟨b, 23, none⟩ = some (.string m.data)
  c24 : w.cell? ⟨b, 24, none⟩ = some (.slice m.sa m.sl.length m.sc)
theorem Bx.cs {w : World} {b : Nat} {m : M} (h : Bx w b m) : Cs w b m := by
  constructor <;> exact h.cell _ _ rfl

theorem oneM (m : M) : (m.cells.all fun x => x.oneCell') = true := by simp [M.cells, M.list, M.subs, Value.oneCell']
theorem infoM : (Tryz.prog.info? 43).map (·.size) = some 25 := by kernel_rfl
theorem wpList_loadM {ops : Array Oper} {rest : List Oper} {o : Oper} {a : Act} {w : World} {Q : Exit → Act → World → Prop} (hgd : o.guard = none) (x : Operand) (ho : o.op = .load 43 x)
    {b : Nat} (hx : a.eval x = .pointer (some ⟨b, 0, none⟩)) {m : M} (hb : Bx w b m)
    (h : wpList Tryz.prog ops Q rest (a.put o.dst (.agg m.cells)) w) : wpList Tryz.prog ops Q (o :: rest) a w :=
  wpList_load_row hgd 43 x ho b hx 43 m.cells (0, 0) _ hb Tryz.underlying43 rfl infoM h
theorem wpList_storeM {ops : Array Oper} {rest : List Oper} {o : Oper} {a : Act} {w : World} {Q : Exit → Act → World → Prop} (hgd : o.guard = none) (x y : Operand) (ho : o.op = .store 43 x y)
    {b : Nat} (hx : a.eval x = .pointer (some ⟨b, 0, none⟩)) {m m' : M} (hy : a.eval y = .agg m'.cells) (hb : Bx w b m)
    (h : wpList Tryz.prog ops Q rest (a.put o.dst undef) (w.setRow b m'.cells)) : wpList Tryz.prog ops Q (o :: rest) a w :=
  wpList_store_row hgd 43 x y ho b m'.cells hx hy 43 m.cells hb infoM rfl (oneM m') h
end Go.Proofs.YtpkmpinbpfblfaaGreatDoor.Box
namespace Go.Proofs.YtpkmpinbpfblfaaGreatDoor.Same
open Go.ChangeShapes Go.WideShapes Go.ChangeAt Go.RowKit
open Go.Proofs.YtpkmpinbpfblfaaGreatDoor.Ms
open Go.Proofs.YtpkmpinbpfblfaaGreatDoor.Box
set_option linter.unusedVariables false
set_option maxRecDepth 100000

theorem alloc_size (w : World) (o : Obj) : (w.alloc o).heap.size = w.heap.size + 1 := by show (w.heap.push o).size = _; simp

end Go.Proofs.YtpkmpinbpfblfaaGreatDoor.Same
namespace Go.Proofs.YtpkmpinbpfblfaaGreatDoor.Hs
open Go.ChangeShapes Go.WideShapes Go.ChangeAt Go.RowKit
open Go.Proofs.YtpkmpinbpfblfaaGreatDoor.Ms
open Go.Proofs.YtpkmpinbpfblfaaGreatDoor.Box
set_option linter.unusedVariables false
set_option maxRecDepth 100000

section
variable {P : Program} {ops : Array Oper} {Q : Exit → Act → World → Prop} {md : Region.Mode} {S : World → Prop}
theorem H.take {i : Nat} {o : Oper} {d : Tmp} {v : Value} {fuel : Nat} {listed : Array Bool} {a : Act} {w : World}
    (ho : ops[i]? = some o) (hw : Region.wanted o (yielded ops a.tmps) = true) (hd : o.dst = some d)
    (hs : Region.noSelect ops = true) (hf : Region.free md ops listed i = true) (hr : (Region.ready md ops listed).contains i = true)
    (hQ : ∀ c a w, Q (.panic c) (a.put (some d) v) w → Q (.panic c) a w)
    (hy : ∀ w, S w → (execOp a.eval o).run P w = .ok (.value v) w) (hS : S w)
    (h : wpAnyH P md ops Q S fuel (listed.setIfInBounds i true) (a.put (some d) v) w) : wpAnyH P md ops Q S (fuel + 1) listed a w := by
  refine wpAnyH_take (v := v) ho hs hf hr ?_ (.inl ⟨hw, hy⟩) hS ?_
  · rw [hd]; exact hQ
  · rw [hd]; exact h
/-- H.take, its side conditions shown by themselves. -/
theorem H.tk {i : Nat} {o : Oper} {d : Tmp} {v : Value} {fuel : Nat} {listed : Array Bool} {a : Act} {w : World}
    (hy : ∀ w, S w → (execOp a.eval o).run P w = .ok (.value v) w) (hS : S w)
    (h : wpAnyH P md ops Q S fuel (listed.setIfInBounds i true) (a.put (some d) v) w)
    (ho : ops[i]? = some o := by simp only [List.getElem?_toArray, List.getElem?_cons_succ, List.getElem?_cons_zero]; rfl)
    (hw : Region.wanted o (yielded ops a.tmps) = true := by kernel_rfl) (hd : o.dst = some d := by rfl)
    (hs : Region.noSelect ops = true := by kernel_rfl) (hf : Region.free md ops listed i = true := by kernel_rfl) (hr : (Region.ready md ops listed).contains i = true := by kernel_rfl)
    (hQ : ∀ c a w, Q (.panic c) (a.put (some d) v) w → Q (.panic c) a w := by exact fun _ _ _ h => h) : wpAnyH P md ops Q S (fuel + 1) listed a w :=
  H.take ho hw hd hs hf hr hQ hy hS h
end

theorem run_loadM {o : Oper} {ρ : Operand → Value} {x : Operand} {b : Nat} {m : M} {w : World} (ho : o.op = .load 43 x) (hx : ρ x = .pointer (some ⟨b, 0, none⟩)) (hb : Bx w b m) :
    (execOp ρ o).run Tryz.prog w = .ok (.value (.agg m.cells)) w := by
  unfold execOp
  simp only [ho, hx, Instr.loadAt, Instr.sureAddr, Sem.run_bind, Sem.run_pure, Result.andThen_ok, run_loadVar_row w b 43 43 m.cells (0, 0) _ hb Tryz.underlying43 rfl infoM]

/-- what a call leaves, if it leaves the old blocks alone -/
theorem heldP {P : Program} {f : Nat} {args : Array Value} {W : World} {v : Ending} (S : World → Prop) (hm : ∀ W w1, S W → Below W.heap.size W w1 → S w1)
    (h : Calls P f args W fun e w' => e = v ∧ Below W.heap.size W w') (hS : S W) : Calls P f args W fun e w' => e = v ∧ S w' :=
  h.mono fun _ _ ⟨he, hb⟩ => ⟨he, hm _ _ hS hb⟩
end Go.Proofs.YtpkmpinbpfblfaaGreatDoor.Hs
namespace Go.Proofs.YtpkmpinbpfblfaaGreatDoor.SameP
open Go.ChangeShapes Go.WideShapes Go.ChangeAt Go.RowKit
open Go.Proofs.YtpkmpinbpfblfaaGreatDoor.Ms
open Go.Proofs.YtpkmpinbpfblfaaGreatDoor.Box
open Go.Proofs.YtpkmpinbpfblfaaGreatDoor.Eq
open Go.Proofs.YtpkmpinbpfblfaaGreatDoor.Same
open Go.Proofs.YtpkmpinbpfblfaaGreatDoor.Hs
set_option linter.unusedVariables false
set_option maxRecDepth 100000

theorem start (w : World) (m m' : M) : Bx ((w.alloc (.cells m.cells 43)).alloc (.cells m'.cells 43)) w.heap.size m ∧ Bx ((w.alloc (.cells m.cells 43)).alloc (.cells m'.cells 43)) (w.heap.size + 1) m' ∧ Below w.heap.size w ((w.alloc (.cells m.cells 43)).alloc (.cells m'.cells 43)) :=
  ⟨(Bx.new w m).old _, by have := Bx.new (w.alloc (.cells m.cells 43)) m'; rwa [alloc_size] at this, balloc (balloc (Below.refl _ _) _) _⟩

/-- What stays in a region over two messages. -/
def S2 (w : World) (a b : M) (W : World) : Prop := Bx W w.heap.size a ∧ Bx W (w.heap.size + 1) b ∧ a.In W ∧ b.In W ∧ Below w.heap.size w W
theorem S2.keep {w : World} {a b : M} (W w1 : World) (h : S2 w a b W) (hb : Below W.heap.size W w1) : S2 w a b w1 := ⟨h.1.below hb, h.2.1.below hb, h.2.2.1.below hb, h.2.2.2.1.below hb, bcall h.2.2.2.2 hb⟩

end Go.Proofs.YtpkmpinbpfblfaaGreatDoor.SameP
