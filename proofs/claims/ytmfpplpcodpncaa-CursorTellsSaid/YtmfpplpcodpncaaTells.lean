/-
  CursorTells, of every cursor and every number: what the calls answer is what the document's own answer says. No condition.
-/
import Derived.Test.YtmfpplpcodpncaaAwake
import Derived.Test.YtmfpplpcodpncaaRNum
import Derived.Test.YtmfpplpcodpncaaCarve
import Derived.Lib.SmallJoins
import Derived.Deep.RegionHeld3
import Derived.Deep.DeepCutAuto
namespace Go.Proofs.Ytmfpplpcodpncaa.cursorTells
open Go.ChangeShapes Go.WideShapes Go.ChangeAt Go.RowKit Go.Joins
open Go.ChangeMaps (open_string shut_string)
open Go.Proofs.Ytmfpplpcodpncaa.Cur
set_option linter.unusedVariables false

/-- a call that keeps what was there keeps a box -/
theorem held {P : Program} {f : Nat} {args : Array Value} {W w : World} {v : Ending} {k : Nat} {s : ByteArray} {a n : Int} {b : Bool}
    (h : Calls P f args W fun e w' => e = v ∧ Below W.heap.size W w')
    (hS : W.cell? ⟨k, 0, none⟩ = some (.string s) ∧ W.cell? ⟨k, 1, none⟩ = some (.int .i64 a) ∧ W.cell? ⟨k, 2, none⟩ = some (.int .i64 n) ∧ W.cell? ⟨k, 3, none⟩ = some (.bool b) ∧ k < W.heap.size ∧ Below w.heap.size w W) :
    Calls P f args W fun e w' => e = v ∧ w'.cell? ⟨k, 0, none⟩ = some (.string s) ∧ w'.cell? ⟨k, 1, none⟩ = some (.int .i64 a) ∧ w'.cell? ⟨k, 2, none⟩ = some (.int .i64 n) ∧ w'.cell? ⟨k, 3, none⟩ = some (.bool b) ∧ k < w'.heap.size ∧ Below w.heap.size w w' :=
  h.mono fun _ _ ⟨he, hb⟩ => by
    obtain ⟨hc, _⟩ := bcell hb
    obtain ⟨c0, c1, c2, c3, l, bel⟩ := hS
    exact ⟨he, by rw [hc _ _ l]; exact c0, by rw [hc _ _ l]; exact c1, by rw [hc _ _ l]; exact c2, by rw [hc _ _ l]; exact c3, Nat.lt_of_lt_of_le l hb.size, bcall bel hb⟩

set_option maxHeartbeats 1600000 in
theorem walk_wrong (s : ByteArray) (a n k : Int) (b : Bool) (w : World) (hs : s.size ≤ maxLen) (h : s.size ≤ 300) (hr : rightB s a n = false) :
    Calls Try.prog 3 #[.agg #[.string s, .int .i64 a, .int .i64 n, .bool b], .int .i64 k] w fun e w' => e = .returned (.bool true) ∧ Below w.heap.size w w' := by
  have hd : decide (s.size ≤ 300) = true := by simpa using h
  go_enter Try.func3, Try.ntmps3
  go_wp2_with fail
  refine (few_any _ _ _ _ _ hs).mono ?_
  rintro e w1 ⟨rfl, hb1⟩
  have B0 : Box w1 w.heap.size s a n b := box_below (box_new _ _ _ _ _) hb1
  have bel1 : Below w.heap.size w w1 := bcall (balloc (Below.refl _ _) _) hb1
  clear hb1
  go_upto_region 3 with fail
  obtain ⟨⟨c0, c1, c2, c3⟩, f0, l0⟩ := B0
  go_region_held3 (fun w' => w'.cell? ⟨w.heap.size, 0, none⟩ = some (.string s) ∧ w'.cell? ⟨w.heap.size, 1, none⟩ = some (.int .i64 a) ∧ w'.cell? ⟨w.heap.size, 2, none⟩ = some (.int .i64 n) ∧ w'.cell? ⟨w.heap.size, 3, none⟩ = some (.bool b) ∧ w.heap.size < w'.heap.size ∧ Below w.heap.size w w')
    (first
      | (refine ⟨?_, ?_, ?_, ?_, ?_, ?_⟩ <;> first | assumption | exact Below.drew (by assumption) | go_keep)
      | go_keep)
    (first
      | (go_at_call 8; refine (held (k := w.heap.size) (w := w) (s := s) (a := a) (n := n) (b := b) (right_any _ _ _ _ _ hs) ?_).mono ?_; assumption; rintro e w' ⟨rfl, hS'⟩)
      | (go_at_call 9; refine (held (k := w.heap.size) (w := w) (s := s) (a := a) (n := n) (b := b) (rright_any _ _ _ _ _ hs) ?_).mono ?_; assumption; rintro e w' ⟨rfl, hS'⟩)
      | (go_at_call 10; refine (held (k := w.heap.size) (w := w) (s := s) (a := a) (n := n) (b := b) (new_any _ _ hs) ?_).mono ?_; assumption; rintro e w' ⟨rfl, hS'⟩)
      | (go_at_call 11; refine (held (k := w.heap.size) (w := w) (s := s) (a := a) (n := n) (b := b) (rnew_any _ _ hs) ?_).mono ?_; assumption; rintro e w' ⟨rfl, hS'⟩))
  clear c0 c1 c2 c3 l0 f0 bel1
  rename_i hS
  obtain ⟨c0, c1, c2, c3, l0, bel1⟩ := hS
  go_wp2_with fail
  refine (rright_any _ _ _ _ _ hs).mono ?_
  rintro e w9 ⟨rfl, hb9⟩
  go_wp2_with fail
  refine (awake_any _).mono ?_
  rintro e w10 ⟨rfl, hb10⟩
  go_wp2
  go_ret
  exact ⟨rfl, bcall (bcall bel1 hb9) hb10⟩

/-- one cursor's cells in block k -/
def B5 (W : World) (k : Nat) (s : ByteArray) (a n : Int) (b : Bool) : Prop :=
  W.cell? ⟨k, 0, none⟩ = some (.string s) ∧ W.cell? ⟨k, 1, none⟩ = some (.int .i64 a) ∧ W.cell? ⟨k, 2, none⟩ = some (.int .i64 n) ∧ W.cell? ⟨k, 3, none⟩ = some (.bool b) ∧ k < W.heap.size

theorem b5_of {W : World} {k : Nat} {s : ByteArray} {a n : Int} {b : Bool} (h : Box W k s a n b) : B5 W k s a n b := ⟨h.1.1, h.1.2.1, h.1.2.2.1, h.1.2.2.2, h.2.2⟩

theorem b5_below {W w1 : World} {k : Nat} {s : ByteArray} {a n : Int} {b : Bool} (h : B5 W k s a n b) (hb : Below W.heap.size W w1) : B5 w1 k s a n b := by
  obtain ⟨c0, c1, c2, c3, l⟩ := h
  obtain ⟨hc, _⟩ := bcell hb
  exact ⟨by rw [hc _ _ l]; exact c0, by rw [hc _ _ l]; exact c1, by rw [hc _ _ l]; exact c2, by rw [hc _ _ l]; exact c3, Nat.lt_of_lt_of_le l hb.size⟩

theorem has_yes (a n : Nat) (k : Int) (b : Bool) (h : hasB a n k b = true) : b = false ∧ ∃ m : Nat, k = m ∧ a + m ≤ n := by
  unfold hasB at h
  simp at h
  obtain ⟨⟨hb, h0⟩, h1⟩ := h
  obtain ⟨m, rfl⟩ := Int.eq_ofNat_of_zero_le h0
  exact ⟨hb, m, rfl, by omega⟩

theorem num_both (s : ByteArray) (a n : Nat) (k : Int) (b : Bool) (hs : s.size ≤ maxLen) (h1 : a ≤ n) (h2 : n ≤ s.size) :
    ∃ (v a' : Int) (b' : Bool), (∀ w : World, Calls Try.prog 12 #[.agg #[.string s, .int .i64 a, .int .i64 n, .bool b], .int .i64 k] w fun e w' => e = .returned (.tuple #[.int .i64 v, .agg #[.string s, .int .i64 a', .int .i64 n, .bool b']]) ∧ Below w.heap.size w w') ∧ (∀ w : World, Calls Try.prog 13 #[.agg #[.string s, .int .i64 a, .int .i64 n, .bool b], .int .i64 k] w fun e w' => e = .returned (.tuple #[.int .i64 v, .agg #[.string s, .int .i64 a', .int .i64 n, .bool b']]) ∧ Below w.heap.size w w') := by
  by_cases hz : sizeB k = true
  · have hz' : 1 ≤ k ∧ k ≤ 7 := by unfold sizeB at hz; simpa using hz
    by_cases h : hasB a n k b = true
    · obtain ⟨rfl, m, rfl, hm⟩ := has_yes a n k b h
      exact ⟨_, _, _, fun w => num_yes s a n m w hs h1 h2 hm (by omega) (by omega), fun w => rnum_yes s a n m w hs h1 h2 hm (by omega) (by omega)⟩
    · have h' : hasB a n k b = false := by simpa using h
      exact ⟨_, _, _, fun w => num_no s a n k b w hs h1 h2 h' hz'.1 hz'.2, fun w => rnum_no s a n k b w hs h1 h2 h' hz'.1 hz'.2⟩
  · have hz' : sizeB k = false := by simpa using hz
    exact ⟨_, _, _, fun w => num_size s a n k b w hz', fun w => rnum_size s a n k b w hz'⟩

theorem text_both (s : ByteArray) (a n : Nat) (k : Int) (b : Bool) (hs : s.size ≤ maxLen) (h1 : a ≤ n) (h2 : n ≤ s.size) :
    ∃ (v : ByteArray) (a' : Int) (b' : Bool), (∀ w : World, Calls Try.prog 14 #[.agg #[.string s, .int .i64 a, .int .i64 n, .bool b], .int .i64 k] w fun e w' => e = .returned (.tuple #[.string v, .agg #[.string s, .int .i64 a', .int .i64 n, .bool b']]) ∧ Below w.heap.size w w') ∧ (∀ w : World, Calls Try.prog 15 #[.agg #[.string s, .int .i64 a, .int .i64 n, .bool b], .int .i64 k] w fun e w' => e = .returned (.tuple #[.string v, .agg #[.string s, .int .i64 a', .int .i64 n, .bool b']]) ∧ Below w.heap.size w w') := by
  by_cases h : hasB a n k b = true
  · obtain ⟨rfl, m, rfl, hm⟩ := has_yes a n k b h
    exact ⟨_, _, _, fun w => text_yes s a n m w hs h1 h2 hm, fun w => rtext_yes s a n m w hs h1 h2 hm⟩
  · have h' : hasB a n k b = false := by simpa using h
    exact ⟨_, _, _, fun w => text_no s a n k b w hs h1 h2 h', fun w => rtext_no s a n k b w hs h1 h2 h'⟩

theorem carve_both (s : ByteArray) (a n : Nat) (k : Int) (b : Bool) (hs : s.size ≤ maxLen) (h1 : a ≤ n) (h2 : n ≤ s.size) :
    ∃ (s3 : ByteArray) (a3 n3 : Int) (b3 : Bool) (a' : Int) (b' : Bool), (∀ w : World, Calls Try.prog 16 #[.agg #[.string s, .int .i64 a, .int .i64 n, .bool b], .int .i64 k] w fun e w' => e = .returned (.tuple #[.agg #[.string s3, .int .i64 a3, .int .i64 n3, .bool b3], .agg #[.string s, .int .i64 a', .int .i64 n, .bool b']]) ∧ Below w.heap.size w w') ∧ (∀ w : World, Calls Try.prog 17 #[.agg #[.string s, .int .i64 a, .int .i64 n, .bool b], .int .i64 k] w fun e w' => e = .returned (.tuple #[.agg #[.string s3, .int .i64 a3, .int .i64 n3, .bool b3], .agg #[.string s, .int .i64 a', .int .i64 n, .bool b']]) ∧ Below w.heap.size w w') := by
  by_cases h : hasB a n k b = true
  · obtain ⟨rfl, m, rfl, hm⟩ := has_yes a n k b h
    exact ⟨_, _, _, _, _, _, fun w => carve_yes s a n m w hs h1 h2 hm, fun w => rcarve_yes s a n m w hs h1 h2 hm⟩
  · have h' : hasB a n k b = false := by simpa using h
    exact ⟨_, _, _, _, _, _, fun w => carve_no s a n k b w hs h1 h2 h', fun w => rcarve_no s a n k b w hs h1 h2 h'⟩

theorem left_both (s : ByteArray) (a n : Int) (b : Bool) :
    ∃ v : Int, (∀ w : World, Calls Try.prog 18 #[.agg #[.string s, .int .i64 a, .int .i64 n, .bool b]] w fun e w' => e = .returned (.int .i64 v) ∧ Below w.heap.size w w') ∧ (∀ w : World, Calls Try.prog 19 #[.agg #[.string s, .int .i64 a, .int .i64 n, .bool b]] w fun e w' => e = .returned (.int .i64 v) ∧ Below w.heap.size w w') := by
  cases b
  · exact ⟨_, fun w => left_ok s a n w, fun w => rleft_ok s a n w⟩
  · exact ⟨_, fun w => left_bad s a n w, fun w => rleft_bad s a n w⟩

theorem b5_step {W w1 : World} {o : Obj} {k : Nat} {s : ByteArray} {a n : Int} {b : Bool} (h : B5 W k s a n b) (hb : Below (W.alloc o).heap.size (W.alloc o) w1) : B5 w1 k s a n b :=
  b5_below (b5_below h ((Below.refl _ _).alloc (Nat.le_refl _) _)) hb

theorem b5_step2 {W w1 : World} {o o' : Obj} {k : Nat} {s : ByteArray} {a n : Int} {b : Bool} (h : B5 W k s a n b) (hb : Below ((W.alloc o).alloc o').heap.size ((W.alloc o).alloc o') w1) : B5 w1 k s a n b :=
  b5_step (b5_below h ((Below.refl _ _).alloc (Nat.le_refl _) _)) hb

theorem b5_fresh {w w1 : World} {s : ByteArray} {a n : Int} {b : Bool} (hb : Below (w.alloc (.cells #[.string s, .int .i64 a, .int .i64 n, .bool b] 23)).heap.size (w.alloc (.cells #[.string s, .int .i64 a, .int .i64 n, .bool b] 23)) w1) : B5 w1 w.heap.size s a n b :=
  b5_below (b5_of (box_new w s a n b)) hb

theorem b5_fresh1 {w w1 : World} {s : ByteArray} {a n : Int} {b : Bool} {o : Obj} (hb : Below ((w.alloc (.cells #[.string s, .int .i64 a, .int .i64 n, .bool b] 23)).alloc o).heap.size ((w.alloc (.cells #[.string s, .int .i64 a, .int .i64 n, .bool b] 23)).alloc o) w1) : B5 w1 w.heap.size s a n b :=
  b5_step (b5_of (box_new w s a n b)) hb

theorem b5_fresh2 {w w1 : World} {s : ByteArray} {a n : Int} {b : Bool} {o : Obj} (hb : Below ((w.alloc o).alloc (.cells #[.string s, .int .i64 a, .int .i64 n, .bool b] 23)).heap.size ((w.alloc o).alloc (.cells #[.string s, .int .i64 a, .int .i64 n, .bool b] 23)) w1) : B5 w1 (w.heap.size + 1) s a n b := by
  have := b5_fresh hb
  simpa using this

theorem bel_step {w W w1 : World} {o : Obj} (h : Below w.heap.size w W) (hb : Below (W.alloc o).heap.size (W.alloc o) w1) : Below w.heap.size w w1 := bcall (balloc h _) hb

theorem bel_step2 {w W w1 : World} {o o' : Obj} (h : Below w.heap.size w W) (hb : Below ((W.alloc o).alloc o').heap.size ((W.alloc o).alloc o') w1) : Below w.heap.size w w1 := bcall (balloc (balloc h _) _) hb

/-- what is kept below every old world is kept by a call -/
theorem heldP {P : Program} {f : Nat} {args : Array Value} {W : World} {v : Ending} (S : World → Prop) (hm : ∀ W w1, S W → Below W.heap.size W w1 → S w1)
    (h : Calls P f args W fun e w' => e = v ∧ Below W.heap.size W w') (hS : S W) : Calls P f args W fun e w' => e = v ∧ S w' :=
  h.mono fun _ _ ⟨he, hb⟩ => ⟨he, hm _ _ hS hb⟩

set_option maxHeartbeats 3200000 in
theorem walk_right (s : ByteArray) (a n : Nat) (k : Int) (b : Bool) (w : World) (hs : s.size ≤ maxLen) (h1 : a ≤ n) (h2 : n ≤ s.size) (h : s.size ≤ 300) :
    Calls Try.prog 3 #[.agg #[.string s, .int .i64 a, .int .i64 n, .bool b], .int .i64 k] w fun e w' => e = .returned (.bool true) ∧ Below w.heap.size w w' := by
  have hd : decide (s.size ≤ 300) = true := by simpa using h
  have hr : rightB s a n = true := by unfold rightB; simp; omega
  obtain ⟨v1, a1, b1, hN, hN'⟩ := num_both s a n k b hs h1 h2
  obtain ⟨v2, a2, b2, hT, hT'⟩ := text_both s a n k b hs h1 h2
  obtain ⟨s3, a3, n3, b3, a4, b4, hC, hC'⟩ := carve_both s a n k b hs h1 h2
  obtain ⟨v5, hL, hL'⟩ := left_both s a n b
  have HN := Lib.hid hN
  have HN' := Lib.hid hN'
  have HT := Lib.hid hT
  have HT' := Lib.hid hT'
  have HC := Lib.hid hC
  have HC' := Lib.hid hC'
  have HL := Lib.hid hL
  have HL' := Lib.hid hL'
  clear hN hN' hT hT' hC hC' hL hL'
  go_enter Try.func3, Try.ntmps3
  go_wp2_with fail
  refine (few_any _ _ _ _ _ hs).mono ?_
  rintro e w1 ⟨rfl, hb1⟩
  have B0 : Box w1 w.heap.size s a n b := box_below (box_new _ _ _ _ _) hb1
  have bel1 : Below w.heap.size w w1 := bcall (balloc (Below.refl _ _) _) hb1
  clear hb1
  go_upto_region 3 with fail
  obtain ⟨⟨c0, c1, c2, c3⟩, f0, l0⟩ := B0
  go_region_held3 (fun w' => w'.cell? ⟨w.heap.size, 0, none⟩ = some (.string s) ∧ w'.cell? ⟨w.heap.size, 1, none⟩ = some (.int .i64 a) ∧ w'.cell? ⟨w.heap.size, 2, none⟩ = some (.int .i64 n) ∧ w'.cell? ⟨w.heap.size, 3, none⟩ = some (.bool b) ∧ w.heap.size < w'.heap.size ∧ Below w.heap.size w w')
    (first
      | (refine ⟨?_, ?_, ?_, ?_, ?_, ?_⟩ <;> first | assumption | exact Below.drew (by assumption) | go_keep)
      | go_keep)
    (first
      | (go_at_call 8; refine (held (k := w.heap.size) (w := w) (s := s) (a := a) (n := n) (b := b) (right_any _ _ _ _ _ hs) ?_).mono ?_; assumption; rintro e w' ⟨rfl, hS'⟩)
      | (go_at_call 9; refine (held (k := w.heap.size) (w := w) (s := s) (a := a) (n := n) (b := b) (rright_any _ _ _ _ _ hs) ?_).mono ?_; assumption; rintro e w' ⟨rfl, hS'⟩)
      | (go_at_call 10; refine (held (k := w.heap.size) (w := w) (s := s) (a := a) (n := n) (b := b) (new_any _ _ hs) ?_).mono ?_; assumption; rintro e w' ⟨rfl, hS'⟩)
      | (go_at_call 11; refine (held (k := w.heap.size) (w := w) (s := s) (a := a) (n := n) (b := b) (rnew_any _ _ hs) ?_).mono ?_; assumption; rintro e w' ⟨rfl, hS'⟩))
  clear c0 c1 c2 c3 l0 f0 bel1
  rename_i hS
  obtain ⟨bel1, B0⟩ := (show Below w.heap.size w _ ∧ B5 _ w.heap.size s a n b from ⟨hS.2.2.2.2.2, hS.1, hS.2.1, hS.2.2.1, hS.2.2.2.1, hS.2.2.2.2.1⟩)
  obtain ⟨c0, c1, c2, c3, l0⟩ := id B0
  go_wp2_with fail
  refine (rright_any _ _ _ _ _ hs).mono ?_
  rintro e w2 ⟨rfl, hb2⟩
  replace B0 := b5_below B0 hb2
  replace bel1 := bcall bel1 hb2
  clear c0 c1 c2 c3 l0 hS hb2
  obtain ⟨c0, c1, c2, c3, l0⟩ := id B0
  go_wp2_with fail
  refine (HN.out _).mono ?_
  rintro e w3 ⟨rfl, hb⟩
  replace B0 := b5_below B0 hb
  replace bel1 := bcall bel1 hb
  clear c0 c1 c2 c3 l0 hb
  obtain ⟨c0, c1, c2, c3, l0⟩ := id B0
  go_wp2_with fail
  refine (HN'.out _).mono ?_
  rintro e w4 ⟨rfl, hb⟩
  replace B0 := b5_step B0 hb
  have BX : B5 w4 w3.heap.size s a1 n b1 := b5_fresh hb
  replace bel1 := bel_step bel1 hb
  clear c0 c1 c2 c3 l0 hb
  generalize w3.heap.size = k3 at *
  obtain ⟨c0, c1, c2, c3, l0⟩ := id B0
  go_wp2_with fail
  refine (HT.out _).mono ?_
  rintro e w5 ⟨rfl, hb⟩
  replace B0 := b5_step B0 hb
  replace BX := b5_step BX hb
  have BY : B5 w5 w4.heap.size s a1 n b1 := b5_fresh hb
  replace bel1 := bel_step bel1 hb
  clear c0 c1 c2 c3 l0 hb
  generalize w4.heap.size = k4 at *
  obtain ⟨c0, c1, c2, c3, l0⟩ := id B0
  go_wp2_with fail
  refine (HT'.out _).mono ?_
  rintro e w6 ⟨rfl, hb⟩
  replace B0 := b5_step B0 hb
  replace BX := b5_step BX hb
  replace BY := b5_step BY hb
  have BZ : B5 w6 w5.heap.size s a2 n b2 := b5_fresh hb
  replace bel1 := bel_step bel1 hb
  clear c0 c1 c2 c3 l0 hb
  generalize w5.heap.size = k5 at *
  obtain ⟨c0, c1, c2, c3, l0⟩ := id B0
  go_wp2_with fail
  refine (HC.out _).mono ?_
  rintro e w7 ⟨rfl, hb⟩
  replace B0 := b5_step B0 hb
  replace BX := b5_step BX hb
  replace BY := b5_step BY hb
  replace BZ := b5_step BZ hb
  have BW : B5 w7 w6.heap.size s a2 n b2 := b5_fresh hb
  replace bel1 := bel_step bel1 hb
  clear c0 c1 c2 c3 l0 hb
  generalize w6.heap.size = k6 at *
  obtain ⟨c0, c1, c2, c3, l0⟩ := id B0
  go_wp2_with fail
  refine (HC'.out _).mono ?_
  rintro e w8 ⟨rfl, hb⟩
  replace B0 := b5_step2 B0 hb
  replace BX := b5_step2 BX hb
  replace BY := b5_step2 BY hb
  replace BZ := b5_step2 BZ hb
  replace BW := b5_step2 BW hb
  have BD : B5 w8 w7.heap.size s3 a3 n3 b3 := b5_fresh1 hb
  have BP : B5 w8 (w7.heap.size + 1) s a4 n b4 := b5_fresh2 hb
  replace bel1 := bel_step2 bel1 hb
  clear c0 c1 c2 c3 l0 hb
  generalize w7.heap.size = k7 at *
  go_upto_region 13 with fail
  generalize hW : (w8.alloc _).alloc _ = W9
  have hz : Below ((w8.alloc (.cells #[.string s3, .int .i64 a3, .int .i64 n3, .bool b3] 23)).alloc (.cells #[.string s, .int .i64 a4, .int .i64 n, .bool b4] 23)).heap.size ((w8.alloc (.cells #[.string s3, .int .i64 a3, .int .i64 n3, .bool b3] 23)).alloc (.cells #[.string s, .int .i64 a4, .int .i64 n, .bool b4] 23)) W9 := by rw [← hW]; exact Below.refl _ _
  replace B0 := b5_step2 B0 hz
  replace BX := b5_step2 BX hz
  replace BY := b5_step2 BY hz
  replace BZ := b5_step2 BZ hz
  replace BW := b5_step2 BW hz
  replace BD := b5_step2 BD hz
  replace BP := b5_step2 BP hz
  have BE : B5 W9 w8.heap.size s3 a3 n3 b3 := b5_fresh1 hz
  have BQ : B5 W9 (w8.heap.size + 1) s a4 n b4 := b5_fresh2 hz
  replace bel1 := bel_step2 bel1 hz
  clear hW hz
  generalize w8.heap.size = k8 at *
  obtain ⟨S, hSdef⟩ : ∃ S : World → Prop, S = (fun W => B5 W w.heap.size s a n b ∧ B5 W k3 s a1 n b1 ∧ B5 W k4 s a1 n b1 ∧ B5 W k5 s a2 n b2 ∧ B5 W k6 s a2 n b2 ∧ B5 W k7 s3 a3 n3 b3 ∧ B5 W (k7 + 1) s a4 n b4 ∧ B5 W k8 s3 a3 n3 b3 ∧ B5 W (k8 + 1) s a4 n b4 ∧ Below w.heap.size w W) := ⟨_, rfl⟩
  have hm : ∀ W w1, S W → Below W.heap.size W w1 → S w1 := by
    subst hSdef
    rintro W w1 ⟨h0, h1, h2, h3, h4, h5, h6, h7, h8, h9⟩ hb
    exact ⟨b5_below h0 hb, b5_below h1 hb, b5_below h2 hb, b5_below h3 hb, b5_below h4 hb, b5_below h5 hb, b5_below h6 hb, b5_below h7 hb, b5_below h8 hb, bcall h9 hb⟩
  have hto : ∀ W, (fun W => (W.cell? ⟨w.heap.size, 0, none⟩ = some (.string s) ∧ W.cell? ⟨w.heap.size, 1, none⟩ = some (.int .i64 a) ∧ W.cell? ⟨w.heap.size, 2, none⟩ = some (.int .i64 n) ∧ W.cell? ⟨w.heap.size, 3, none⟩ = some (.bool b) ∧ w.heap.size < W.heap.size) ∧ (W.cell? ⟨k3, 0, none⟩ = some (.string s) ∧ W.cell? ⟨k3, 1, none⟩ = some (.int .i64 a1) ∧ W.cell? ⟨k3, 2, none⟩ = some (.int .i64 n) ∧ W.cell? ⟨k3, 3, none⟩ = some (.bool b1) ∧ k3 < W.heap.size) ∧ (W.cell? ⟨k4, 0, none⟩ = some (.string s) ∧ W.cell? ⟨k4, 1, none⟩ = some (.int .i64 a1) ∧ W.cell? ⟨k4, 2, none⟩ = some (.int .i64 n) ∧ W.cell? ⟨k4, 3, none⟩ = some (.bool b1) ∧ k4 < W.heap.size) ∧ (W.cell? ⟨k5, 0, none⟩ = some (.string s) ∧ W.cell? ⟨k5, 1, none⟩ = some (.int .i64 a2) ∧ W.cell? ⟨k5, 2, none⟩ = some (.int .i64 n) ∧ W.cell? ⟨k5, 3, none⟩ = some (.bool b2) ∧ k5 < W.heap.size) ∧ (W.cell? ⟨k6, 0, none⟩ = some (.string s) ∧ W.cell? ⟨k6, 1, none⟩ = some (.int .i64 a2) ∧ W.cell? ⟨k6, 2, none⟩ = some (.int .i64 n) ∧ W.cell? ⟨k6, 3, none⟩ = some (.bool b2) ∧ k6 < W.heap.size) ∧ (W.cell? ⟨k7, 0, none⟩ = some (.string s3) ∧ W.cell? ⟨k7, 1, none⟩ = some (.int .i64 a3) ∧ W.cell? ⟨k7, 2, none⟩ = some (.int .i64 n3) ∧ W.cell? ⟨k7, 3, none⟩ = some (.bool b3) ∧ k7 < W.heap.size) ∧ (W.cell? ⟨k7 + 1, 0, none⟩ = some (.string s) ∧ W.cell? ⟨k7 + 1, 1, none⟩ = some (.int .i64 a4) ∧ W.cell? ⟨k7 + 1, 2, none⟩ = some (.int .i64 n) ∧ W.cell? ⟨k7 + 1, 3, none⟩ = some (.bool b4) ∧ k7 + 1 < W.heap.size) ∧ (W.cell? ⟨k8, 0, none⟩ = some (.string s3) ∧ W.cell? ⟨k8, 1, none⟩ = some (.int .i64 a3) ∧ W.cell? ⟨k8, 2, none⟩ = some (.int .i64 n3) ∧ W.cell? ⟨k8, 3, none⟩ = some (.bool b3) ∧ k8 < W.heap.size) ∧ (W.cell? ⟨k8 + 1, 0, none⟩ = some (.string s) ∧ W.cell? ⟨k8 + 1, 1, none⟩ = some (.int .i64 a4) ∧ W.cell? ⟨k8 + 1, 2, none⟩ = some (.int .i64 n) ∧ W.cell? ⟨k8 + 1, 3, none⟩ = some (.bool b4) ∧ k8 + 1 < W.heap.size) ∧ Below w.heap.size w W) W → S W := by
    subst hSdef
    intro W h
    exact h
  have hof : ∀ W, S W → (fun W => (W.cell? ⟨w.heap.size, 0, none⟩ = some (.string s) ∧ W.cell? ⟨w.heap.size, 1, none⟩ = some (.int .i64 a) ∧ W.cell? ⟨w.heap.size, 2, none⟩ = some (.int .i64 n) ∧ W.cell? ⟨w.heap.size, 3, none⟩ = some (.bool b) ∧ w.heap.size < W.heap.size) ∧ (W.cell? ⟨k3, 0, none⟩ = some (.string s) ∧ W.cell? ⟨k3, 1, none⟩ = some (.int .i64 a1) ∧ W.cell? ⟨k3, 2, none⟩ = some (.int .i64 n) ∧ W.cell? ⟨k3, 3, none⟩ = some (.bool b1) ∧ k3 < W.heap.size) ∧ (W.cell? ⟨k4, 0, none⟩ = some (.string s) ∧ W.cell? ⟨k4, 1, none⟩ = some (.int .i64 a1) ∧ W.cell? ⟨k4, 2, none⟩ = some (.int .i64 n) ∧ W.cell? ⟨k4, 3, none⟩ = some (.bool b1) ∧ k4 < W.heap.size) ∧ (W.cell? ⟨k5, 0, none⟩ = some (.string s) ∧ W.cell? ⟨k5, 1, none⟩ = some (.int .i64 a2) ∧ W.cell? ⟨k5, 2, none⟩ = some (.int .i64 n) ∧ W.cell? ⟨k5, 3, none⟩ = some (.bool b2) ∧ k5 < W.heap.size) ∧ (W.cell? ⟨k6, 0, none⟩ = some (.string s) ∧ W.cell? ⟨k6, 1, none⟩ = some (.int .i64 a2) ∧ W.cell? ⟨k6, 2, none⟩ = some (.int .i64 n) ∧ W.cell? ⟨k6, 3, none⟩ = some (.bool b2) ∧ k6 < W.heap.size) ∧ (W.cell? ⟨k7, 0, none⟩ = some (.string s3) ∧ W.cell? ⟨k7, 1, none⟩ = some (.int .i64 a3) ∧ W.cell? ⟨k7, 2, none⟩ = some (.int .i64 n3) ∧ W.cell? ⟨k7, 3, none⟩ = some (.bool b3) ∧ k7 < W.heap.size) ∧ (W.cell? ⟨k7 + 1, 0, none⟩ = some (.string s) ∧ W.cell? ⟨k7 + 1, 1, none⟩ = some (.int .i64 a4) ∧ W.cell? ⟨k7 + 1, 2, none⟩ = some (.int .i64 n) ∧ W.cell? ⟨k7 + 1, 3, none⟩ = some (.bool b4) ∧ k7 + 1 < W.heap.size) ∧ (W.cell? ⟨k8, 0, none⟩ = some (.string s3) ∧ W.cell? ⟨k8, 1, none⟩ = some (.int .i64 a3) ∧ W.cell? ⟨k8, 2, none⟩ = some (.int .i64 n3) ∧ W.cell? ⟨k8, 3, none⟩ = some (.bool b3) ∧ k8 < W.heap.size) ∧ (W.cell? ⟨k8 + 1, 0, none⟩ = some (.string s) ∧ W.cell? ⟨k8 + 1, 1, none⟩ = some (.int .i64 a4) ∧ W.cell? ⟨k8 + 1, 2, none⟩ = some (.int .i64 n) ∧ W.cell? ⟨k8 + 1, 3, none⟩ = some (.bool b4) ∧ k8 + 1 < W.heap.size) ∧ Below w.heap.size w W) W := by
    subst hSdef
    intro W h
    exact h
  have HM := Lib.hid hm
  have HTO := Lib.hid hto
  have HOF := Lib.hid hof
  clear hSdef hm hto hof
  obtain ⟨d00, d01, d02, d03, d04⟩ := B0
  obtain ⟨d10, d11, d12, d13, d14⟩ := BX
  obtain ⟨d20, d21, d22, d23, d24⟩ := BY
  obtain ⟨d30, d31, d32, d33, d34⟩ := BZ
  obtain ⟨d40, d41, d42, d43, d44⟩ := BW
  obtain ⟨d50, d51, d52, d53, d54⟩ := BD
  obtain ⟨d60, d61, d62, d63, d64⟩ := BP
  obtain ⟨d70, d71, d72, d73, d74⟩ := BE
  obtain ⟨d80, d81, d82, d83, d84⟩ := BQ
  go_region_held3 (fun W => (W.cell? ⟨w.heap.size, 0, none⟩ = some (.string s) ∧ W.cell? ⟨w.heap.size, 1, none⟩ = some (.int .i64 a) ∧ W.cell? ⟨w.heap.size, 2, none⟩ = some (.int .i64 n) ∧ W.cell? ⟨w.heap.size, 3, none⟩ = some (.bool b) ∧ w.heap.size < W.heap.size) ∧ (W.cell? ⟨k3, 0, none⟩ = some (.string s) ∧ W.cell? ⟨k3, 1, none⟩ = some (.int .i64 a1) ∧ W.cell? ⟨k3, 2, none⟩ = some (.int .i64 n) ∧ W.cell? ⟨k3, 3, none⟩ = some (.bool b1) ∧ k3 < W.heap.size) ∧ (W.cell? ⟨k4, 0, none⟩ = some (.string s) ∧ W.cell? ⟨k4, 1, none⟩ = some (.int .i64 a1) ∧ W.cell? ⟨k4, 2, none⟩ = some (.int .i64 n) ∧ W.cell? ⟨k4, 3, none⟩ = some (.bool b1) ∧ k4 < W.heap.size) ∧ (W.cell? ⟨k5, 0, none⟩ = some (.string s) ∧ W.cell? ⟨k5, 1, none⟩ = some (.int .i64 a2) ∧ W.cell? ⟨k5, 2, none⟩ = some (.int .i64 n) ∧ W.cell? ⟨k5, 3, none⟩ = some (.bool b2) ∧ k5 < W.heap.size) ∧ (W.cell? ⟨k6, 0, none⟩ = some (.string s) ∧ W.cell? ⟨k6, 1, none⟩ = some (.int .i64 a2) ∧ W.cell? ⟨k6, 2, none⟩ = some (.int .i64 n) ∧ W.cell? ⟨k6, 3, none⟩ = some (.bool b2) ∧ k6 < W.heap.size) ∧ (W.cell? ⟨k7, 0, none⟩ = some (.string s3) ∧ W.cell? ⟨k7, 1, none⟩ = some (.int .i64 a3) ∧ W.cell? ⟨k7, 2, none⟩ = some (.int .i64 n3) ∧ W.cell? ⟨k7, 3, none⟩ = some (.bool b3) ∧ k7 < W.heap.size) ∧ (W.cell? ⟨k7 + 1, 0, none⟩ = some (.string s) ∧ W.cell? ⟨k7 + 1, 1, none⟩ = some (.int .i64 a4) ∧ W.cell? ⟨k7 + 1, 2, none⟩ = some (.int .i64 n) ∧ W.cell? ⟨k7 + 1, 3, none⟩ = some (.bool b4) ∧ k7 + 1 < W.heap.size) ∧ (W.cell? ⟨k8, 0, none⟩ = some (.string s3) ∧ W.cell? ⟨k8, 1, none⟩ = some (.int .i64 a3) ∧ W.cell? ⟨k8, 2, none⟩ = some (.int .i64 n3) ∧ W.cell? ⟨k8, 3, none⟩ = some (.bool b3) ∧ k8 < W.heap.size) ∧ (W.cell? ⟨k8 + 1, 0, none⟩ = some (.string s) ∧ W.cell? ⟨k8 + 1, 1, none⟩ = some (.int .i64 a4) ∧ W.cell? ⟨k8 + 1, 2, none⟩ = some (.int .i64 n) ∧ W.cell? ⟨k8 + 1, 3, none⟩ = some (.bool b4) ∧ k8 + 1 < W.heap.size) ∧ Below w.heap.size w W)
    (first
      | assumption
      | (refine ⟨⟨?_, ?_, ?_, ?_, ?_⟩, ⟨?_, ?_, ?_, ?_, ?_⟩, ⟨?_, ?_, ?_, ?_, ?_⟩, ⟨?_, ?_, ?_, ?_, ?_⟩, ⟨?_, ?_, ?_, ?_, ?_⟩, ⟨?_, ?_, ?_, ?_, ?_⟩, ⟨?_, ?_, ?_, ?_, ?_⟩, ⟨?_, ?_, ?_, ?_, ?_⟩, ⟨?_, ?_, ?_, ?_, ?_⟩, ?_⟩ <;> first | assumption | exact Below.drew (by assumption)))
    (first
      | (go_at_call 7; refine (heldP S HM.out (awake_any _) ?_).mono ?_; (apply HTO.out; assumption); rintro e w' ⟨rfl, hS'⟩; replace hS' := HOF.out _ hS')
      | (go_at_call 18; refine (heldP S HM.out (HL.out _) ?_).mono ?_; (apply HTO.out; assumption); rintro e w' ⟨rfl, hS'⟩; replace hS' := HOF.out _ hS')
      | (go_at_call 19; refine (heldP S HM.out (HL'.out _) ?_).mono ?_; (apply HTO.out; assumption); rintro e w' ⟨rfl, hS'⟩; replace hS' := HOF.out _ hS'))
  go_wp2
  go_ret
  obtain ⟨_, _, _, _, _, _, _, _, _, bel⟩ := hS'
  exact ⟨rfl, bel⟩

set_option maxHeartbeats 800000 in
theorem walk_long (s : ByteArray) (a n k : Int) (b : Bool) (w : World) (hs : s.size ≤ maxLen) (h : 300 < s.size) :
    Calls Try.prog 3 #[.agg #[.string s, .int .i64 a, .int .i64 n, .bool b], .int .i64 k] w fun e w' => e = .returned (.bool true) ∧ Below w.heap.size w w' := by
  have hd : decide (s.size ≤ 300) = false := decide_eq_false (by omega)
  go_enter Try.func3, Try.ntmps3
  go_wp2_with fail
  refine (few_any _ _ _ _ _ hs).mono ?_
  rintro e w1 ⟨rfl, hb1⟩
  go_wp2_with fail
  refine (awake_any _).mono ?_
  rintro e w2 ⟨rfl, hb2⟩
  go_wp2
  go_ret
  exact ⟨rfl, bcall (bcall (balloc (Below.refl _ _) _) hb1) hb2⟩

theorem walk (s : ByteArray) (a n k : Int) (b : Bool) (w : World) (hs : s.size ≤ maxLen) :
    Calls Try.prog 3 #[.agg #[.string s, .int .i64 a, .int .i64 n, .bool b], .int .i64 k] w fun e w' => e = .returned (.bool true) ∧ Below w.heap.size w w' := by
  by_cases h : 300 < s.size
  · exact walk_long s a n k b w hs h
  · by_cases hr : rightB s a n = true
    · have h3 : (0 ≤ a ∧ a ≤ n) ∧ n ≤ s.size := by unfold rightB at hr; simpa using hr
      obtain ⟨a, rfl⟩ := Int.eq_ofNat_of_zero_le h3.1.1
      obtain ⟨n, rfl⟩ := Int.eq_ofNat_of_zero_le (show 0 ≤ n by omega)
      exact walk_right s a n k b w hs (by omega) (by omega) (by omega)
    · exact walk_wrong s a n k b w hs (by omega) (by simpa using hr)

theorem own : ownKnob Try.prog.godebug = none := by kernel_rfl
theorem cells23 : Try.prog.cellsOf 23 = 4 := by kernel_rfl

set_option maxRecDepth 100000 in
theorem lifted (os : Os) (started : os.Started) (H : Type) (enc : TypeId × Value → H) :
    ReturnsInHanded {} Try.checked os 3 .any (Rows.cursorTellsSpec.pre6 enc Try.prog Try.f3 Rows.cursorTellsRow.domain false) (Rows.cursorTellsSpec.post enc Try.prog Try.f3 false true false false) := by
  refine returnsInHanded_of_change (C := Try.checked) own started (by kernel_rfl) Try.func3
    (ChangeSpec.witness6 (enc := enc) (C := Try.checked) false ⟨#[], #[.agg #[.string ByteArray.empty, .int .i64 0, .int .i64 0, .bool false], .int .i64 0], []⟩ 8 (by kernel_rfl) (by kernel_rfl) (by kernel_rfl) (by kernel_rfl)) ?_
  intro W base args ds gs before hval0 hW hcnd _
  have hval : ∀ (j : Nat) t v, Try.f3.params[j]? = some t → args[j]? = some v → Value.okWide Try.prog W .any base t v := hval0
  have hW' := hW
  obtain ⟨p, q, hA0, hV, rfl, hfz, hnd⟩ := hW
  have hA : DataW.TrodAll enc Try.prog W 0 (fun _ => true) true Try.f3.params.toList args.toList ds p := hA0
  rw [Try.params3] at hA hval
  obtain ⟨v0, vs0, d0, ds0, p0, q0, hargs, rfl, rfl, h0, r0⟩ := trodAll_cons hA
  obtain ⟨v1, vs1, d1, ds1, p1, q1, rfl, rfl, rfl, h1, r1⟩ := trodAll_cons r0
  obtain ⟨rfl, rfl, rfl⟩ := trodAll_nil r1
  obtain rfl : args = #[v0, v1] := by cases args; simp_all
  obtain ⟨rfl, rfl⟩ := trodVars_none hV
  obtain ⟨c0, c1, c2, c3, y0, y1, y2, y3, m, rfl, rfl, rfl, hy0, hy1, hy2, hy3⟩ := open_agg4 Try.underlying23 (by kernel_rfl) cells23 (hval 0 23 v0 rfl rfl) h0
  obtain ⟨s, e0, rfl, ws⟩ := DataW.trod_string Try.underlying9 hy0
  obtain ⟨a, e1, rfl, wa⟩ := DataW.trod_int Try.underlying3 hy1
  obtain ⟨n, e2, rfl, wn⟩ := DataW.trod_int Try.underlying3 hy2
  obtain ⟨b, e3, rfl⟩ := DataW.trod_bool Try.underlying4 hy3
  simp at e0 e1 e2 e3
  subst e0 e1 e2 e3
  obtain ⟨a1, rfl, rfl, rfl, w1⟩ := open_int Try.underlying3 (hval 1 3 v1 rfl rfl) h1
  clear hA0 hval0
  simp only [List.append_nil] at hW'
  have structReads : ∀ (W' : World) (sp : Nat → Bool), DataW.Trod enc Try.prog W' 0 sp true 23 (.agg #[.string s, .int .i64 a, .int .i64 n, .bool b]) (.agg [.lit (.string s.data.toList), .lit (.int .i64 a), .lit (.int .i64 n), .lit (.bool b)]) [] := fun W' sp =>
    shut_agg4 (y0 := (.lit (.string s.data.toList), [])) (y1 := (.lit (.int .i64 a), [])) (y2 := (.lit (.int .i64 n), [])) (y3 := (.lit (.bool b), [])) Try.underlying23 (by kernel_rfl) cells23 ⟨1, by simp [DataW.trod, Try.underlying9, ws]⟩ ⟨1, by simp [DataW.trod, Try.underlying3, wa]⟩ ⟨1, by simp [DataW.trod, Try.underlying3, wn]⟩ ⟨1, by simp [DataW.trod, Try.underlying4]⟩
  refine (walk s a n a1 b W ws).mono fun e W' ⟨he, hg⟩ => ?_
  subst he
  exact ⟨_, rfl, _, _, _, [], _, [], hW', trodAll_mk1 (shut_bool Try.underlying4 _), (trodAll_cons_mk (structReads _ _) (trodAll_cons_mk (shut_int Try.underlying3 w1) trodAll_mk0)), rfl, hg.frame _, fun h => by cases h⟩

theorem over : Rows.cursorTellsRow.holds Try.pinned (OpenSpec.ofChange Rows.cursorTellsSpec) :=
  OpenClaim.holds_of_wide 3 Try.f3 rfl rfl rfl rfl rfl rfl rfl ⟨rfl, rfl, rfl, rfl, rfl⟩ rfl rfl rfl rfl rfl (by kernel_rfl) Try.func3 (by kernel_rfl)
    (of_decide_eq_true (by kernel_rfl)) (by unfold Func.isWrapper; first | (rw [if_pos (by decide +kernel)]; kernel_rfl) | (rw [if_neg (by decide +kernel)]; exact ⟨rfl, rfl⟩))
    (fun os started H enc _ => lifted os started H enc)

/-- the given statement -/
theorem proved : Rows.CursorTellsSaid :=
  over
#print axioms proved
end Go.Proofs.Ytmfpplpcodpncaa.cursorTells
