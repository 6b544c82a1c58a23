/-
  The reader's calls and Get: what they answer of any text. Condition: a text no longer than a text may be.
-/
import Derived.Test.YtfaobpmbiocafaaBk
namespace Go.Proofs.Ytfaobpmbiocafaa.Ent
open Go.ChangeShapes Go.WideShapes Go.ChangeAt Go.RowKit
open Go.Proofs.Ytfaobpmbiocafaa.Cur
open Go.Proofs.Ytfaobpmbiocafaa.Bk
set_option linter.unusedVariables false
set_option maxRecDepth 100000

set_option maxHeartbeats 800000 in
theorem rdnum (s : ByteArray) (a k b : Nat) (ai ki ci ni : Int) (w : World) (hai : ai = a) (hki : ki = k) (hci : ci = (a : Int) + k) (hni : ni = s.size) (hb : Bk 87 w b (cur s ai ni false)) (hs : s.size ≤ maxLen) (h3 : a + k ≤ s.size) (h4 : 1 ≤ k) (h5 : k ≤ 7) :
    Calls Try.prog 71 #[.pointer (some ⟨b, 0, none⟩), .int .i64 ki] w fun e w' => e = .returned (.int .i64 (numL ((s.data.toList.drop a).take k))) ∧ Bk 87 w' b (cur s ci ni false) ∧ Below w.heap.size (w.setRow b (cur s ci ni false)) w' := by
  subst hai hki hci hni
  have HB := Lib.hid hb
  have hlt := hb.lt
  clear hb
  go_enter Try.func71, Try.ntmps71
  go_wp2_with (first | (refine wpList_loadK shC rfl _ rfl rfl HB.out rfl ?_))
  refine (num_yes s a s.size k w hs (by omega) (Nat.le_refl _) h3 h4 h5).mono ?_
  rintro e w1 ⟨rfl, hb1⟩
  have HB1 := Lib.hid (HB.out.below hb1)
  have hlt1 := HB1.out.lt
  go_wp2_with (first | (refine wpList_storeK (b := b) shC rfl _ _ rfl rfl rfl (HB1.out.old _) rfl rfl (cur_one s ((a : Int) + k) s.size false) ?_))
  go_ret
  exact ⟨rfl, (HB1.out.old _).put _, below_rows (hb1.alloc hb1.size _) HB.out _⟩

set_option maxHeartbeats 800000 in
theorem rdtext (s : ByteArray) (a k b : Nat) (ai ki ci ni : Int) (w : World) (hai : ai = a) (hki : ki = k) (hci : ci = (a : Int) + k) (hni : ni = s.size) (hb : Bk 87 w b (cur s ai ni false)) (hs : s.size ≤ maxLen) (h3 : a + k ≤ s.size) (h4 : 1 ≤ k) (h5 : k ≤ 7) :
    Calls Try.prog 72 #[.pointer (some ⟨b, 0, none⟩), .int .i64 ki] w fun e w' => e = .returned (.string (s.extract a (a + k))) ∧ Bk 87 w' b (cur s ci ni false) ∧ Below w.heap.size (w.setRow b (cur s ci ni false)) w' := by
  subst hai hki hci hni
  have HB := Lib.hid hb
  have hlt := hb.lt
  clear hb
  go_enter Try.func72, Try.ntmps72
  go_wp2_with (first | (refine wpList_loadK shC rfl _ rfl rfl HB.out rfl ?_))
  refine (text_yes s a s.size k w hs (by omega) (Nat.le_refl _) h3).mono ?_
  rintro e w1 ⟨rfl, hb1⟩
  have HB1 := Lib.hid (HB.out.below hb1)
  have hlt1 := HB1.out.lt
  go_wp2_with (first | (refine wpList_storeK (b := b) shC rfl _ _ rfl rfl rfl (HB1.out.old _) rfl rfl (cur_one s ((a : Int) + k) s.size false) ?_))
  go_ret
  exact ⟨rfl, (HB1.out.old _).put _, below_rows (hb1.alloc hb1.size _) HB.out _⟩

/-- The entry of twenty bytes. -/
def E.of (s : ByteArray) : E := ⟨numL (s.data.toList.take 2), numL ((s.data.toList.drop 2).take 2), s.extract 4 8, s.extract 8 12, s.extract 12 16, numL ((s.data.toList.drop 16).take 4)⟩

/-- What stands in the middle of Get. -/
structure G (w0 w : World) (eb rb : Nat) (e : E) (s : ByteArray) (a : Int) : Prop where
  ent : Bk 48 w eb e.cells
  rd : Bk 87 w rb (cur s a 20 false)
  res : Bk 48 w w0.heap.size E.zero.cells
  o1 : w0.heap.size < eb
  o2 : eb < rb
  bel : Below w0.heap.size w0 w
theorem G.call {w0 w w' : World} {eb rb : Nat} {e : E} {s : ByteArray} {a a' : Int} (g : G w0 w eb rb e s a) (h : Bk 87 w' rb (cur s a' 20 false)) (hb : Below w.heap.size (w.setRow rb (cur s a' 20 false)) w') : G w0 w' eb rb e s a' :=
  ⟨g.ent.over (by have := g.o2; omega) hb, h, g.res.over (by have := g.o1; have := g.o2; omega) hb, g.o1, g.o2, below_over g.bel (by have := g.o1; have := g.o2; omega) g.bel.size hb⟩
theorem G.set {w0 w : World} {eb rb : Nat} {e e' : E} {s : ByteArray} {a : Int} (g : G w0 w eb rb e s a) {i : Nat} {v : Value} (hm : e.cells.setIfInBounds i v = e'.cells) : G w0 (w.setCell ⟨eb, i, none⟩ v) eb rb e' s a :=
  ⟨g.ent.set hm, g.rd.off (by have := g.o2; show rb ≠ eb; omega) _, g.res.off (by have := g.o1; show w0.heap.size ≠ eb; omega) _, g.o1, g.o2, g.bel.setCell (p := ⟨eb, i, none⟩) (by have := g.o1; show w0.heap.size ≤ eb; omega) _⟩

set_option maxHeartbeats 1600000 in
theorem get_yes (s : ByteArray) (w : World) (hs : s.size = 20) :
    Calls Try.prog 44 #[.string s] w fun e w' => e = .returned (.tuple #[.agg (E.of s).cells, .bool true]) ∧ Below w.heap.size w w' := by
  have hm : s.size ≤ maxLen := by unfold maxLen; omega
  go_enter Try.func44, Try.ntmps44
  go_wp2_with fail
  refine (new_any s _ hm).mono ?_
  rintro e w1 ⟨rfl, hb1⟩
  go_wp2_with fail
  have G0 : G w (w1.alloc (.cells (cur s 0 20 false) 87)) (w.heap.size + 1) w1.heap.size E.zero s 0 := by
    have h1 := (Bk.new 48 w E.zero.cells).old (.cells E.zero.cells 48)
    have h2 := Bk.new 48 (w.alloc (.cells E.zero.cells 48)) E.zero.cells
    have hl := hb1.size
    rw [alloc_size, alloc_size] at hl
    rw [alloc_size] at h2
    exact ⟨(h2.below hb1).old _, Bk.new _ _ _, (h1.below hb1).old _, by omega, by omega, (((((Below.refl w.heap.size w).alloc (Nat.le_refl _) _).alloc (by rw [alloc_size]; omega) _).trans (hb1.mono (by rw [alloc_size, alloc_size]; omega))).alloc (by omega) _)⟩
  clear hb1
  change Calls _ _ _ (w1.alloc (.cells (cur s 0 20 false) 87)) _
  generalize w1.alloc _ = W at *
  generalize w1.heap.size = rb at *
  refine (rdnum s 0 2 rb 0 2 2 20 _ rfl rfl rfl (by rw [hs]; rfl) G0.rd hm (by omega) (by omega) (by omega)).mono ?_
  rintro e V0 ⟨rfl, hr, hbl⟩
  replace G0 := G0.call hr hbl
  have cE := G0.ent.cell 0 (.int .i64 0) rfl
  have fE := G0.ent.frozen 0
  clear hr hbl
  go_wp2_with fail
  replace G0 : G w _ _ _ ⟨numL (s.data.toList.take 2), 0, ⟨#[]⟩, ⟨#[]⟩, ⟨#[]⟩, 0⟩ s 2 := G0.set (e' := ⟨numL (s.data.toList.take 2), 0, ⟨#[]⟩, ⟨#[]⟩, ⟨#[]⟩, 0⟩) (i := 0) rfl
  clear cE fE
  generalize World.setCell _ _ _ = W at *
  refine (rdnum s 2 2 rb 2 2 4 20 _ rfl rfl rfl (by rw [hs]; rfl) G0.rd hm (by omega) (by omega) (by omega)).mono ?_
  rintro e V1 ⟨rfl, hr, hbl⟩
  replace G0 := G0.call hr hbl
  have cE := G0.ent.cell 1 (.int .i64 0) rfl
  have fE := G0.ent.frozen 1
  clear hr hbl
  go_wp2_with fail
  replace G0 : G w _ _ _ ⟨numL (s.data.toList.take 2), numL ((s.data.toList.drop 2).take 2), ⟨#[]⟩, ⟨#[]⟩, ⟨#[]⟩, 0⟩ s 4 := G0.set (e' := ⟨numL (s.data.toList.take 2), numL ((s.data.toList.drop 2).take 2), ⟨#[]⟩, ⟨#[]⟩, ⟨#[]⟩, 0⟩) (i := 1) rfl
  clear cE fE
  generalize World.setCell _ _ _ = W at *
  refine (rdtext s 4 4 rb 4 4 8 20 _ rfl rfl rfl (by rw [hs]; rfl) G0.rd hm (by omega) (by omega) (by omega)).mono ?_
  rintro e V2 ⟨rfl, hr, hbl⟩
  replace G0 := G0.call hr hbl
  have cE := G0.ent.cell 2 (.string ⟨#[]⟩) rfl
  have fE := G0.ent.frozen 2
  clear hr hbl
  go_wp2_with fail
  replace G0 : G w _ _ _ ⟨numL (s.data.toList.take 2), numL ((s.data.toList.drop 2).take 2), s.extract 4 8, ⟨#[]⟩, ⟨#[]⟩, 0⟩ s 8 := G0.set (e' := ⟨numL (s.data.toList.take 2), numL ((s.data.toList.drop 2).take 2), s.extract 4 8, ⟨#[]⟩, ⟨#[]⟩, 0⟩) (i := 2) rfl
  clear cE fE
  generalize World.setCell _ _ _ = W at *
  refine (rdtext s 8 4 rb 8 4 12 20 _ rfl rfl rfl (by rw [hs]; rfl) G0.rd hm (by omega) (by omega) (by omega)).mono ?_
  rintro e V3 ⟨rfl, hr, hbl⟩
  replace G0 := G0.call hr hbl
  have cE := G0.ent.cell 3 (.string ⟨#[]⟩) rfl
  have fE := G0.ent.frozen 3
  clear hr hbl
  go_wp2_with fail
  replace G0 : G w _ _ _ ⟨numL (s.data.toList.take 2), numL ((s.data.toList.drop 2).take 2), s.extract 4 8, s.extract 8 12, ⟨#[]⟩, 0⟩ s 12 := G0.set (e' := ⟨numL (s.data.toList.take 2), numL ((s.data.toList.drop 2).take 2), s.extract 4 8, s.extract 8 12, ⟨#[]⟩, 0⟩) (i := 3) rfl
  clear cE fE
  generalize World.setCell _ _ _ = W at *
  refine (rdtext s 12 4 rb 12 4 16 20 _ rfl rfl rfl (by rw [hs]; rfl) G0.rd hm (by omega) (by omega) (by omega)).mono ?_
  rintro e V4 ⟨rfl, hr, hbl⟩
  replace G0 := G0.call hr hbl
  have cE := G0.ent.cell 4 (.string ⟨#[]⟩) rfl
  have fE := G0.ent.frozen 4
  clear hr hbl
  go_wp2_with fail
  replace G0 : G w _ _ _ ⟨numL (s.data.toList.take 2), numL ((s.data.toList.drop 2).take 2), s.extract 4 8, s.extract 8 12, s.extract 12 16, 0⟩ s 16 := G0.set (e' := ⟨numL (s.data.toList.take 2), numL ((s.data.toList.drop 2).take 2), s.extract 4 8, s.extract 8 12, s.extract 12 16, 0⟩) (i := 4) rfl
  clear cE fE
  generalize World.setCell _ _ _ = W at *
  refine (rdnum s 16 4 rb 16 4 20 20 _ rfl rfl rfl (by rw [hs]; rfl) G0.rd hm (by omega) (by omega) (by omega)).mono ?_
  rintro e V5 ⟨rfl, hr, hbl⟩
  replace G0 := G0.call hr hbl
  have cE := G0.ent.cell 5 (.int .i64 0) rfl
  have fE := G0.ent.frozen 5
  clear hr hbl
  have G1 : G w (V5.setCell ⟨w.heap.size + 1, 5, none⟩ (.int .i64 (numL ((s.data.toList.drop 16).take 4)))) _ _ (E.of s) s 20 := G0.set (e' := E.of s) (i := 5) rfl
  clear G0
  go_wp2_with (first | (refine wpList_loadK (b := w.heap.size + 1) shE rfl _ rfl rfl G1.ent rfl ?_) | (refine wpList_storeK (b := w.heap.size) shE rfl _ _ rfl rfl rfl G1.res rfl rfl (E.one (E.of s)) ?_))
  refine bodyPost_ret (v := .tuple #[.agg (E.of s).cells, .bool true]) (results_pair (ty := 48) rfl _ _ w.heap.size _ rfl (loadVarK shE (G1.res.put _) rfl) _ rfl) rfl ⟨rfl, below_setRow G1.bel (Nat.le_refl _) _⟩

theorem get_no (s : ByteArray) (w : World) (hm : s.size ≤ maxLen) (hs : s.size ≠ 20) :
    Calls Try.prog 44 #[.string s] w fun e w' => e = .returned (.tuple #[.agg E.zero.cells, .bool false]) ∧ Below w.heap.size w w' := by
  unfold maxLen at hm
  go_enter Try.func44, Try.ntmps44
  go_wp2_with (first | (refine wpList_builtK rfl 48 _ rfl E.zero.cells (by kernel_rfl) ?_) | (refine wpList_storeK (b := w.heap.size) shE rfl _ _ rfl rfl rfl (Bk.new 48 w E.zero.cells) rfl rfl (E.one E.zero) ?_))
  refine bodyPost_ret (v := .tuple #[.agg E.zero.cells, .bool false]) (results_pair (ty := 48) rfl _ _ w.heap.size _ rfl (loadVarK shE ((Bk.new 48 w E.zero.cells).put _) rfl) _ rfl) rfl ⟨rfl, below_setRow ((Below.refl w.heap.size w).alloc (Nat.le_refl _) _) (Nat.le_refl _) _⟩
end Go.Proofs.Ytfaobpmbiocafaa.Ent
