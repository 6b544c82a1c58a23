/-
  A cursor at work, whatever it is; the head of a datagram: the program's readHead, Body, Trailer, Wrap, and the document's. Condition: at most 2^20 bytes.
-/
import Derived.Test.YtoeghlbljmdchaaF1
import Derived.Test.YtoeghlbljmdchaaHx
import Derived.Test.YtoeghlbljmdchaaHy
namespace Go.Proofs.Ytoeghlbljmdchaa.F2
open Go.ChangeShapes Go.WideShapes Go.ChangeAt Go.RowKit
open Go.Proofs.Ytoeghlbljmdchaa.F1
open Go.Proofs.Ytoeghlbljmdchaa.Nu
open Go.Proofs.Ytoeghlbljmdchaa.Cur (numL num_yes num_no text_yes text_no new_any left_ok hasB)
open Go.Proofs.Ytoeghlbljmdchaa.Bk (Bk Sh shC cur cur_one loadVarK wpList_builtK wpList_loadK wpList_storeK run_loadK below_setRow alloc_size)
open Go.Proofs.Ytoeghlbljmdchaa.Hs
open Go.Proofs.Ytoeghlbljmdchaa.Hx (conv8 ex_built H.storeRow)
set_option linter.unusedVariables false
set_option maxRecDepth 100000

theorem bcall {w W w1 : World} (h : Below w.heap.size w W) (hb : Below W.heap.size W w1) : Below w.heap.size w w1 := h.trans (hb.mono h.size)
theorem balloc {w W : World} (h : Below w.heap.size w W) (o : Obj) : Below w.heap.size w (W.alloc o) := h.alloc h.size o
theorem idx (b : ByteArray) (k : Nat) (i : Int) (hi : i = k) (h : k < b.size) (W : World) : (Instr.index 9 (.string b) (.int .i64 i)).run Try.prog W = .ok (.int .u8 (bt b k)) W := by
  subst hi
  rw [run_index_string W 9 b .i64 (k : Int) Try.underlying9, dif_pos ⟨by omega, by omega⟩, ← bt_eq b k h]
  rfl
theorem sl_m (s : ByteArray) (i j : Int) (lo hi : Nat) (hi' : i = lo) (hj : j = hi) (h1 : lo ≤ hi) (h2 : hi ≤ s.size) (W : World) :
    (Instr.slice 9 (.string s) (some (.int .i64 i)) (some (.int .i64 j)) none).run Try.prog W = .ok (.string (s.extract lo hi)) W := by
  subst hi' hj
  have := run_slice_string (P := Try.prog) W 9 s .i64 .i64 (lo : Int) (hi : Int) Try.underlying9 (by omega) (by omega) (by omega)
  simpa using this
theorem sl_l (s : ByteArray) (i : Int) (lo hi : Nat) (hi' : i = lo) (h1 : lo ≤ s.size) (hs : s.size = hi) (W : World) :
    (Instr.slice 9 (.string s) (some (.int .i64 i)) none none).run Try.prog W = .ok (.string (s.extract lo hi)) W := by
  subst hi' hs
  have := run_slice_string_l (P := Try.prog) (t := 9) (s := s) W Try.underlying9 .i64 (lo : Int) (by omega) (by omega)
  simpa using this
theorem results_head {P : Program} {fn : Func} {o p q r : Nat} {ty : TypeId} (h : fn.results = #[.tmp o, .cell p ty, .tmp q, .tmp r]) (tmps : Array Value) (w : World) (g : Nat) (u : Value)
    (y : Value) (hy : tmps.getD o undef = y) (hp : tmps.getD p undef = .pointer (some ⟨g, 0, none⟩)) (hl : (loadVar ty ⟨g, 0, none⟩).run P w = .ok u w) (v : Value) (hv : tmps.getD q undef = v) (x : Value) (hx : tmps.getD r undef = x) :
    (results fn tmps).run P w = .ok (.tuple #[y, u, v, x]) w := by
  have hy' : tmps[o]?.getD undef = y := by simpa using hy
  have hp' : tmps[p]?.getD undef = .pointer (some ⟨g, 0, none⟩) := by simpa using hp
  have hv' : tmps[q]?.getD undef = v := by simpa using hv
  have hx' : tmps[r]?.getD undef = x := by simpa using hx
  simp [results, h, hy', hp', hv', hx', asAddr, hl]

/-- An empty cursor's cells. -/
def noC : Array Value := cur ⟨#[]⟩ 0 0 false
/-- One number off a cursor that may be, whether it is all there or not. -/
theorem num_any (s : ByteArray) (p : Nat) (x : Bool) (k : Nat) (hs : s.size ≤ 1048576) (hp : p ≤ s.size) (h1 : 1 ≤ k) (h7 : k ≤ 7) :
    ∃ (v : Int) (q : Nat) (y : Bool), q ≤ s.size ∧ (y = false → x = false ∧ q = p + k ∧ p + k ≤ s.size) ∧
      ∀ w, Calls Try.prog 26 #[.agg (cur s p s.size x), .int .i64 k] w fun e w' => e = .returned (.tuple #[.int .i64 v, .agg (cur s q s.size y)]) ∧ Below w.heap.size w w' := by
  have hm : s.size ≤ maxLen := by unfold maxLen; omega
  by_cases h : x = false ∧ p + k ≤ s.size
  · obtain ⟨rfl, h⟩ := h
    refine ⟨((numL ((s.data.toList.drop p).take k) : Nat) : Int), p + k, false, h, fun _ => ⟨rfl, rfl, h⟩, fun w => ?_⟩
    have := num_yes s p s.size k w hm hp (Nat.le_refl _) h h1 h7
    unfold cur
    push_cast
    exact this
  · have hb : hasB p s.size k x = false := by
      unfold hasB
      cases x with
      | true => rfl
      | false =>
        have h2 : ¬ p + k ≤ s.size := fun hh => h ⟨rfl, hh⟩
        simp only [Bool.not_false, Bool.true_and, Bool.and_eq_false_iff, decide_eq_false_iff_not]
        right
        omega
    exact ⟨0, p, true, hp, (fun h => nomatch h), fun w => num_no s p s.size k x w hm hp (Nat.le_refl _) hb (by omega) (by omega)⟩
theorem num_is (s : ByteArray) (p : Nat) (hs : s.size ≤ 1048576) (h : p + 1 ≤ s.size) (w : World) :
    Calls Try.prog 26 #[.agg (cur s p s.size false), .int .i64 1] w fun e w' => e = .returned (.tuple #[.int .i64 (bt s p), .agg (cur s (p + 1 : Nat) s.size false)]) ∧ Below w.heap.size w w' := by
  have := num_yes s p s.size 1 w (by unfold maxLen; omega) (by omega) (Nat.le_refl _) h (by omega) (by omega)
  rw [num_one s p (by omega)] at this
  unfold cur
  push_cast
  exact this

/-- What stands in readHead: the answer's cursor, the cursor. -/
structure G (w0 w : World) (cb : Nat) (c : Array Value) : Prop where
  res : Bk 43 w w0.heap.size noC
  cur : Bk 43 w cb c
  ne : w0.heap.size < cb
  bel : Below w0.heap.size w0 w
theorem G.call {w0 w w' : World} {cb : Nat} {c : Array Value} (g : G w0 w cb c) (hb : Below w.heap.size w w') : G w0 w' cb c := ⟨g.res.below hb, g.cur.below hb, g.ne, g.bel.trans (hb.mono g.bel.size)⟩
theorem G.put {w0 w : World} {cb : Nat} {c : Array Value} (g : G w0 w cb c) (c' : Array Value) : G w0 (w.setRow cb c') cb c' :=
  ⟨g.res.row (by have := g.ne; omega) _, g.cur.put _, g.ne, below_setRow g.bel (Nat.le_of_lt g.ne) _⟩
/-- The answer of readHead: a number, a cursor, a place, an error. -/
def HeadIs (n : Int) (c : Array Value) (i x : Int) (w : World) (e : Ending) (w' : World) : Prop := e = .returned (.tuple #[.int .i64 n, .agg c, .int .i64 i, .int .i64 x]) ∧ Below w.heap.size w w'
set_option maxHeartbeats 3200000 in
theorem head_walk (b : ByteArray) (v1 v2 v3 : Int) (p1 p2 p3 : Nat) (y1 y2 y3 : Bool) (w : World) (hs : b.size ≤ 1048576) (P : Ending → World → Prop) (hP : P = if y3 = true then HeadIs 0 noC b.size 2 w else if ¬ v1 = 42 then HeadIs 0 noC 0 4 w else if ¬ v2 = 2 then HeadIs 0 noC 1 4 w else HeadIs v3 (cur b p3 b.size y3) 0 0 w)
    (h1 : ∀ w, Calls Try.prog 26 #[.agg (cur b 0 b.size false), .int .i64 1] w fun e w' => e = .returned (.tuple #[.int .i64 v1, .agg (cur b p1 b.size y1)]) ∧ Below w.heap.size w w')
    (h2 : ∀ w, Calls Try.prog 26 #[.agg (cur b p1 b.size y1), .int .i64 1] w fun e w' => e = .returned (.tuple #[.int .i64 v2, .agg (cur b p2 b.size y2)]) ∧ Below w.heap.size w w')
    (h3 : ∀ w, Calls Try.prog 26 #[.agg (cur b p2 b.size y2), .int .i64 2] w fun e w' => e = .returned (.tuple #[.int .i64 v3, .agg (cur b p3 b.size y3)]) ∧ Below w.heap.size w w') :
    Calls Try.prog 19 #[.string b] w P := by
  have HP := Lib.hid hP
  clear hP
  have HN := Lib.hid (fun V => new_any b V (by unfold maxLen; omega))
  have H1 := Lib.hid h1
  have H2 := Lib.hid h2
  have H3 := Lib.hid h3
  have hbs : (b.size : Int) ≤ 1048576 := by omega
  clear h1 h2 h3 hs
  go_enter Try.func19, Try.ntmps19
  go_upto_region 1 with fail
  change Code.wp _ _ _ _ (w.alloc (.cells noC 43))
  have R0 := Lib.hid (Bk.Bk.new 43 w noC)
  have B0 := Lib.hid (balloc (Below.refl _ w) (.cells noC 43))
  generalize w.alloc (.cells noC 43) = W0 at *
  go_wp2_with fail
  refine (HN.out _).mono ?_
  rintro e W1 ⟨rfl, hb⟩
  have R1 := Lib.hid (R0.out.below hb)
  have B1 := Lib.hid (bcall B0.out hb)
  clear hb HN R0 B0
  go_wp2_with fail
  refine (H1.out _).mono ?_
  rintro e w1 ⟨rfl, hb⟩
  have R1 := Lib.hid (R1.out.below hb)
  have B1 := Lib.hid (bcall B1.out hb)
  clear hb H1
  have C := Bk.Bk.new 43 w1 noC
  go_upto_region 2 with (refine wpList_storeK (b := w1.heap.size) shC rfl _ _ rfl rfl rfl C rfl rfl (cur_one _ _ _ _) ?_)
  clear C
  change Code.wp _ _ _ _ ((w1.alloc (.cells noC 43)).setRow w1.heap.size (cur b p1 b.size y1))
  rw [World.setRow_alloc_new]
  have HG : Hid (G w (w1.alloc (.cells (cur b p1 b.size y1) 43)) w1.heap.size (cur b p1 b.size y1)) := Lib.hid ⟨R1.out.old _, Bk.Bk.new _ _ _, R1.out.lt, balloc B1.out _⟩
  clear R1 B1
  generalize w1.alloc (.cells (cur b p1 b.size y1) 43) = W2 at *
  generalize w1.heap.size = cb at *
  go_wp2_with (first | (refine wpList_loadK (b := cb) shC rfl _ rfl rfl HG.out.cur rfl ?_))
  refine (H2.out _).mono ?_
  rintro e w2 ⟨rfl, hb⟩
  have HG := Lib.hid (HG.out.call hb)
  clear hb H2
  go_upto_region 3 with (refine wpList_storeK (b := cb) shC rfl _ _ rfl rfl rfl HG.out.cur rfl rfl (cur_one b p2 b.size y2) ?_)
  have HG := Lib.hid (HG.out.put (cur b p2 b.size y2))
  generalize w2.setRow cb (cur b p2 b.size y2) = W3 at *
  go_wp2_with (first | (refine wpList_loadK (b := cb) shC rfl _ rfl rfl HG.out.cur rfl ?_))
  refine (H3.out _).mono ?_
  rintro e w3 ⟨rfl, hb⟩
  have HG := Lib.hid (HG.out.call hb)
  clear hb H3
  go_upto_region 4 with (refine wpList_storeK (b := cb) shC rfl _ _ rfl rfl rfl HG.out.cur rfl rfl (cur_one b p3 b.size y3) ?_)
  have HG := Lib.hid (HG.out.put (cur b p3 b.size y3))
  generalize w3.setRow cb (cur b p3 b.size y3) = W4 at *
  have c3 := HG.out.cur.cell 3 (.bool y3) rfl
  by_cases hy : y3 = true
  · subst hy
    have HP : P = HeadIs 0 noC b.size 2 w := by rw [HP.out, if_pos rfl]
    subst HP
    go_wp2_with (first | (refine wpList_builtK rfl 43 _ rfl noC (by kernel_rfl) ?_) | (refine wpList_storeK (b := w.heap.size) shC rfl _ _ rfl rfl rfl HG.out.res rfl rfl (cur_one _ _ _ _) ?_))
    exact bodyPost_ret (v := .tuple #[.int .i64 0, .agg noC, .int .i64 b.size, .int .i64 2]) (results_head (ty := 43) rfl _ _ w.heap.size (.agg noC) (.int .i64 0) rfl rfl (loadVarK shC (HG.out.res.put noC) rfl) (.int .i64 b.size) rfl (.int .i64 2) rfl) rfl ⟨rfl, below_setRow HG.out.bel (Nat.le_refl _) _⟩
  have hy : y3 = false := by simpa using hy
  subst hy
  have HP := Lib.hid (HP.out.trans (if_neg (by simp)))
  by_cases e1 : v1 = 42
  rotate_left
  · have HP : P = HeadIs 0 noC 0 4 w := HP.out.trans (if_pos e1)
    subst HP
    go_wp2_with (first | (refine wpList_builtK rfl 43 _ rfl noC (by kernel_rfl) ?_) | (refine wpList_storeK (b := w.heap.size) shC rfl _ _ rfl rfl rfl HG.out.res rfl rfl (cur_one _ _ _ _) ?_))
    exact bodyPost_ret (v := .tuple #[.int .i64 0, .agg noC, .int .i64 0, .int .i64 4]) (results_head (ty := 43) rfl _ _ w.heap.size (.agg noC) (.int .i64 0) rfl rfl (loadVarK shC (HG.out.res.put noC) rfl) (.int .i64 0) rfl (.int .i64 4) rfl) rfl ⟨rfl, below_setRow HG.out.bel (Nat.le_refl _) _⟩
  have HP := Lib.hid (HP.out.trans (if_neg (by simpa using e1)))
  by_cases e2 : v2 = 2
  rotate_left
  · have HP : P = HeadIs 0 noC 1 4 w := HP.out.trans (if_pos e2)
    subst HP
    go_wp2_with (first | (refine wpList_builtK rfl 43 _ rfl noC (by kernel_rfl) ?_) | (refine wpList_storeK (b := w.heap.size) shC rfl _ _ rfl rfl rfl HG.out.res rfl rfl (cur_one _ _ _ _) ?_))
    exact bodyPost_ret (v := .tuple #[.int .i64 0, .agg noC, .int .i64 1, .int .i64 4]) (results_head (ty := 43) rfl _ _ w.heap.size (.agg noC) (.int .i64 0) rfl rfl (loadVarK shC (HG.out.res.put noC) rfl) (.int .i64 1) rfl (.int .i64 4) rfl) rfl ⟨rfl, below_setRow HG.out.bel (Nat.le_refl _) _⟩
  have HP : P = HeadIs v3 (cur b p3 b.size false) 0 0 w := HP.out.trans (if_neg (by simpa using e2))
  subst HP
  go_upto_region 10 with fail
  refine wp_region_held_drew (S := fun W => Bk 43 W cb (cur b p3 b.size false)) (by kernel_rfl) HG.out.cur.drew (fun hS => ?_)
  refine H.tk (i := 0) (v := .int .i64 v3) (fun _ _ => rfl) hS ?_
  try simp only [Act.put, List.setIfInBounds_toArray, List.set_cons_zero, List.set_cons_succ]
  refine H.tk (i := 1) (v := .agg (cur b p3 b.size false)) (fun W hW => run_loadK shC rfl rfl hW rfl) hS ?_
  try simp only [Act.put, List.setIfInBounds_toArray, List.set_cons_zero, List.set_cons_succ]
  refine H.tk (i := 2) (v := .int .i64 v3) (fun _ _ => rfl) hS ?_
  try simp only [Act.put, List.setIfInBounds_toArray, List.set_cons_zero, List.set_cons_succ]
  refine H.storeRow (i := 3) (g := w.heap.size) (cells := cur b p3 b.size false) (by simp only [List.getElem?_toArray, List.getElem?_cons_succ, List.getElem?_cons_zero]; rfl) (by kernel_rfl) rfl rfl (by kernel_rfl) rfl rfl 43 noC HG.out.res.drew (by kernel_rfl) rfl (cur_one _ _ _ _) (HG.out.cur.drew.row (by have := HG.out.ne; omega) _) ?_
  have hS2 := HG.out.cur.drew.row (g := w.heap.size) (by have := HG.out.ne; omega) (cur b p3 b.size false)
  refine H.tk (i := 4) (v := .int .i64 0) (fun _ _ => rfl) hS2 ?_
  try simp only [Act.put, List.setIfInBounds_toArray, List.set_cons_zero, List.set_cons_succ]
  refine H.tk (i := 5) (v := .int .i64 0) (fun _ _ => rfl) hS2 ?_
  try simp only [Act.put, List.setIfInBounds_toArray, List.set_cons_zero, List.set_cons_succ]
  refine wpAnyH_done (by kernel_rfl) ?_ _
  go_wp2_with fail
  exact bodyPost_ret (v := .tuple #[.int .i64 v3, .agg (cur b p3 b.size false), .int .i64 0, .int .i64 0]) (results_head (ty := 43) rfl _ _ w.heap.size (.agg (cur b p3 b.size false)) (.int .i64 v3) rfl rfl (loadVarK shC (HG.out.res.drew.put (cur b p3 b.size false)) rfl) (.int .i64 0) rfl (.int .i64 0) rfl) rfl ⟨rfl, below_setRow HG.out.bel.drew (Nat.le_refl _) _⟩
/-- The head's first fault, or its number and the cursor behind it. -/
theorem head_any (b : ByteArray) (w : World) (hs : b.size ≤ 1048576) (P : Ending → World → Prop) (hP : P = if b.size < 4 then HeadIs 0 noC b.size 2 w else if ¬ bt b 0 = 42 then HeadIs 0 noC 0 4 w else if ¬ bt b 1 = 2 then HeadIs 0 noC 1 4 w else HeadIs (bodyN b) (cur b (4 : Nat) b.size false) 0 0 w) :
    Calls Try.prog 19 #[.string b] w P := by
  by_cases h : b.size < 4
  · obtain ⟨v1, p1, y1, l1, k1, n1⟩ := num_any b 0 false 1 hs (Nat.zero_le _) (by omega) (by omega)
    obtain ⟨v2, p2, y2, l2, k2, n2⟩ := num_any b p1 y1 1 hs l1 (by omega) (by omega)
    obtain ⟨v3, p3, y3, l3, k3, n3⟩ := num_any b p2 y2 2 hs l2 (by omega) (by omega)
    have hy : y3 = true := by
      cases y3 with
      | true => rfl
      | false =>
        obtain ⟨e2, _, _⟩ := k3 rfl
        obtain ⟨e1, _, _⟩ := k2 e2
        obtain ⟨_, _, _⟩ := k1 e1
        omega
    exact head_walk b v1 v2 v3 p1 p2 p3 y1 y2 y3 w hs P (by rw [hP, if_pos h, if_pos hy]) n1 n2 n3
  · have n3 : ∀ w, Calls Try.prog 26 #[.agg (cur b (2 : Nat) b.size false), .int .i64 2] w fun e w' => e = .returned (.tuple #[.int .i64 (bodyN b), .agg (cur b (4 : Nat) b.size false)]) ∧ Below w.heap.size w w' := fun w => by
      have := num_yes b 2 b.size 2 w (by unfold maxLen; omega) (by omega) (Nat.le_refl _) (by omega) (by omega) (by omega)
      rw [num_two b 2 (by omega), ← bodyN_eq] at this
      exact this
    exact head_walk b (bt b 0) (bt b 1) (bodyN b) 1 2 4 false false false w hs P (by rw [hP, if_neg h]; exact (if_neg (by simp : ¬ (false = true))).symm) (fun w => num_is b 0 hs (by omega) w) (fun w => num_is b 1 hs (by omega) w) n3

/-- The answer of Body. -/
def BodyIs (o : ByteArray × Int × Int) (w : World) (e : Ending) (w' : World) : Prop := e = .returned (.tuple #[.string o.1, .int .i64 o.2.1, .int .i64 o.2.2]) ∧ Below w.heap.size w w'
theorem out_bad {b : ByteArray} {i x : Int} (h : head b = some (i, x)) : outB b = (⟨#[]⟩, i, x) := by unfold outB; rw [h]
theorem out_good {b : ByteArray} (h : head b = none) : outB b = (b.extract 4 (4 + bodyN b), 0, 0) := by unfold outB; rw [h]
set_option maxHeartbeats 1600000 in
theorem body_bad (b : ByteArray) (i x : Int) (w : World) (hs : b.size ≤ 65535) (hx : ¬ x = 0) (h : ∀ w, Calls Try.prog 19 #[.string b] w (HeadIs 0 noC i x w)) :
    Calls Try.prog 8 #[.string b] w (BodyIs (⟨#[]⟩, i, x) w) := by
  have PH := Lib.hid h
  have hbs : (b.size : Int) ≤ 65535 := by omega
  clear h hs
  go_enter Try.func8, Try.ntmps8
  go_wp2_with fail
  refine (PH.out _).mono ?_
  rintro e w1 ⟨rfl, hb⟩
  have C := Lib.hid (Bk.Bk.new 43 w1 noC)
  have HB := Lib.hid (below_setRow (balloc hb (.cells noC 43)) hb.size noC)
  clear hb PH
  go_wp2_with (first | (refine wpList_storeK (b := w1.heap.size) shC rfl _ _ rfl rfl rfl C.out rfl rfl (cur_one _ _ _ _) ?_))
  go_ret3
  exact ⟨rfl, HB.out⟩
set_option maxHeartbeats 3200000 in
theorem body_walk (b : ByteArray) (s : ByteArray) (q : Int) (y : Bool) (w : World) (hs : b.size ≤ 65535) (h : ∀ w, Calls Try.prog 19 #[.string b] w (HeadIs (bodyN b) (cur b (4 : Nat) b.size false) 0 0 w))
    (ht : ∀ w, Calls Try.prog 20 #[.agg (cur b (4 : Nat) b.size false), .int .i64 (bodyN b)] w fun e w' => e = .returned (.tuple #[.string s, .agg (cur b q b.size y)]) ∧ Below w.heap.size w w')
    (P : Ending → World → Prop) (hP : P = if y = true then BodyIs (⟨#[]⟩, (b.size : Int), 2) w else BodyIs (s, 0, 0) w) :
    Calls Try.prog 8 #[.string b] w P := by
  have PH := Lib.hid h
  have PT := Lib.hid ht
  have HP := Lib.hid hP
  have hbs : (b.size : Int) ≤ 65535 := by omega
  clear h ht hs hP
  generalize (bodyN b : Int) = n at *
  go_enter Try.func8, Try.ntmps8
  go_wp2_with fail
  refine (PH.out _).mono ?_
  rintro e w1 ⟨rfl, hb⟩
  have C := Lib.hid (Bk.Bk.new 43 w1 noC)
  have C1 := Lib.hid (C.out.put (cur b (4 : Nat) b.size false))
  have HB := Lib.hid (below_setRow (balloc hb (.cells noC 43)) hb.size (cur b (4 : Nat) b.size false))
  have hg : Hid (w.heap.size ≤ w1.heap.size) := Lib.hid hb.size
  clear hb PH
  go_upto_region 4 with (first | (refine wpList_storeK (b := w1.heap.size) shC rfl _ _ rfl rfl rfl C.out rfl rfl (cur_one _ _ _ _) ?_))
  change Code.wp _ _ _ _ ((w1.alloc (.cells noC 43)).setRow w1.heap.size (cur b (4 : Nat) b.size false))
  clear C
  generalize (w1.alloc (.cells noC 43)).setRow w1.heap.size (cur b (4 : Nat) b.size false) = W at *
  generalize w1.heap.size = g at *
  go_wp2_with (first | (refine wpList_loadK (b := g) shC rfl _ rfl rfl C1.out rfl ?_))
  refine (PT.out _).mono ?_
  rintro e w2 ⟨rfl, hb⟩
  have C2 := Lib.hid (C1.out.below hb)
  have C3 := Lib.hid (C2.out.put (cur b q b.size y))
  have HB := Lib.hid (below_setRow (bcall HB.out hb) hg.out (cur b q b.size y))
  have c3 := C3.out.cell 3 (.bool y) rfl
  clear hb PT C1
  cases y with
  | true =>
    have HP : P = BodyIs (⟨#[]⟩, (b.size : Int), 2) w := HP.out.trans (if_pos rfl)
    subst HP
    go_wp2_with (first | (refine wpList_storeK (b := g) shC rfl _ _ rfl rfl rfl C2.out rfl rfl (cur_one _ _ _ _) ?_))
    go_ret3
    exact ⟨rfl, HB.out⟩
  | false =>
    have HP : P = BodyIs (s, 0, 0) w := HP.out.trans (if_neg (by simp))
    subst HP
    go_wp2_with (first | (refine wpList_storeK (b := g) shC rfl _ _ rfl rfl rfl C2.out rfl rfl (cur_one _ _ _ _) ?_))
    go_ret3
    exact ⟨rfl, HB.out⟩
theorem head_long {b : ByteArray} (h : 65535 < b.size) : head b = some (65535, 10) := by unfold head; rw [if_pos h]
theorem head_short {b : ByteArray} (h : b.size < 4) : head b = some ((b.size : Int), 2) := by unfold head; rw [if_neg (by omega), if_pos h]
theorem head_kind {b : ByteArray} (h : ¬ 65535 < b.size) (h1 : ¬ b.size < 4) (h2 : ¬ bt b 0 = 42) : head b = some (0, 4) := by unfold head; rw [if_neg h, if_neg h1, if_pos h2]
theorem head_vers {b : ByteArray} (h : ¬ 65535 < b.size) (h1 : ¬ b.size < 4) (h2 : bt b 0 = 42) (h3 : ¬ bt b 1 = 2) : head b = some (1, 4) := by unfold head; rw [if_neg h, if_neg h1, if_neg (by omega), if_pos h3]
theorem head_few {b : ByteArray} (h : ¬ 65535 < b.size) (h1 : ¬ b.size < 4) (h2 : bt b 0 = 42) (h3 : bt b 1 = 2) (h4 : b.size < 4 + bodyN b) : head b = some ((b.size : Int), 2) := by
  have := bodyN_eq b
  unfold head; rw [if_neg h, if_neg h1, if_neg (by omega), if_neg (by omega), if_pos (by omega)]
theorem body_any (b : ByteArray) (w : World) (hs : b.size ≤ maxLen) : Calls Try.prog 8 #[.string b] w (BodyIs (outB b) w) := by
  by_cases h : 65535 < b.size
  · rw [out_bad (head_long h)]
    have hb : (65535 : Int) < b.size := by omega
    unfold maxLen at hs
    clear h
    go_enter Try.func8, Try.ntmps8
    go_wp2
    go_ret3
    exact ⟨rfl, Below.refl _ _⟩
  have hs1 : b.size ≤ 1048576 := by omega
  by_cases h1 : b.size < 4
  · rw [out_bad (head_short h1)]
    exact body_bad b _ _ w (by omega) (by omega) fun w => head_any b w hs1 _ (by rw [if_pos h1])
  by_cases h2 : bt b 0 = 42
  rotate_left
  · rw [out_bad (head_kind h h1 h2)]
    exact body_bad b _ _ w (by omega) (by omega) fun w => head_any b w hs1 _ (by rw [if_neg h1, if_pos h2])
  by_cases h3 : bt b 1 = 2
  rotate_left
  · rw [out_bad (head_vers h h1 h2 h3)]
    exact body_bad b _ _ w (by omega) (by omega) fun w => head_any b w hs1 _ (by rw [if_neg h1, if_neg (by omega), if_pos h3])
  have PH : ∀ w, Calls Try.prog 19 #[.string b] w (HeadIs (bodyN b) (cur b (4 : Nat) b.size false) 0 0 w) := fun w => head_any b w hs1 _ (by rw [if_neg h1, if_neg (by omega), if_neg (by omega)])
  by_cases h4 : b.size < 4 + bodyN b
  · rw [out_bad (head_few h h1 h2 h3 h4)]
    exact body_walk b ⟨#[]⟩ (4 : Nat) true w (by omega) PH (fun w => text_no b 4 b.size (bodyN b) false w hs (by omega) (Nat.le_refl _) (by unfold hasB; simp; omega)) _ (by rw [if_pos rfl])
  · rw [out_good (head_yes (by omega) (by omega) h2 h3 (by omega))]
    exact body_walk b _ _ false w (by omega) PH (fun w => text_yes b 4 b.size (bodyN b) w hs (by omega) (Nat.le_refl _) (by omega)) _ (by rw [if_neg (by simp)])
set_option maxHeartbeats 1600000 in
theorem trailer_any (b : ByteArray) (w : World) (hs : b.size ≤ maxLen) (h : head b = none) : Calls Try.prog 12 #[.string b] w fun e w' => e = .returned (.string (trail b)) ∧ Below w.heap.size w w' := by
  have PB := Lib.hid (fun V => body_any b V hs)
  rw [out_good h] at PB
  obtain ⟨k1, k2, _, _, k5⟩ := head_no h
  have hz : (b.extract 4 (4 + bodyN b)).size = bodyN b := by simp; omega
  have hn : (bodyN b : Int) ≤ 65535 := bodyN_le b
  have HT := Lib.hid (show b.extract (4 + bodyN b) b.size = trail b from rfl)
  have sl := sl_l b (4 + ((b.extract 4 (4 + bodyN b)).size : Int)) (4 + bodyN b) b.size (by rw [hz]; push_cast; rfl) k5 rfl
  have hzz : ((b.extract 4 (4 + bodyN b)).size : Int) ≤ 65535 := by rw [hz]; exact hn
  rw [HT.out] at sl
  clear h k1 k2 k5 hz hn hs HT
  generalize b.extract 4 (4 + bodyN b) = s at *
  go_enter Try.func12, Try.ntmps12
  go_wp2_with fail
  refine (PB.out _).mono ?_
  rintro e w1 ⟨rfl, hb⟩
  go_wp2
  go_ret
  exact ⟨rfl, hb⟩

theorem below_drewN {w W : World} (h : Below w.heap.size w W) : ∀ n, Below w.heap.size w (W.drewN n)
  | 0 => h
  | n + 1 => (below_drewN h n).drew
set_option maxHeartbeats 1600000 in
/-- The document's Body. -/
theorem rbody_any (b : ByteArray) (w : World) (hs : b.size ≤ maxLen) : Calls Try.prog 9 #[.string b] w (BodyIs (outB b) w) := by
  by_cases h : 65535 < b.size
  · rw [out_bad (head_long h)]
    have hb : (65535 : Int) < b.size := by omega
    unfold maxLen at hs
    clear h
    go_enter Try.func9, Try.ntmps9
    go_wp2
    go_ret3
    exact ⟨rfl, Below.refl _ _⟩
  have hb : (b.size : Int) ≤ 65535 := by omega
  clear hs
  by_cases h1 : b.size < 4
  · rw [out_bad (head_short h1)]
    have hb4 : (b.size : Int) < 4 := by omega
    clear h
    go_enter Try.func9, Try.ntmps9
    go_wp2
    go_ret3
    exact ⟨rfl, Below.refl _ _⟩
  have i0 := idx b 0 0 rfl (by omega)
  have hb4 : ¬ (b.size : Int) < 4 := by omega
  by_cases h2 : bt b 0 = 42
  rotate_left
  · rw [out_bad (head_kind h h1 h2)]
    have n0 := bt_nn b 0
    have l0 := bt_lt b 0
    clear h h1
    generalize bt b 0 = x at *
    go_enter Try.func9, Try.ntmps9
    go_wp2
    go_ret3
    exact ⟨rfl, Below.refl _ _⟩
  have i1 := idx b 1 1 rfl (by omega)
  by_cases h3 : bt b 1 = 2
  rotate_left
  · rw [out_bad (head_vers h h1 h2 h3)]
    rw [h2] at i0
    have n0 := bt_nn b 1
    have l0 := bt_lt b 1
    clear h h1 h2
    generalize bt b 1 = x at *
    go_enter Try.func9, Try.ntmps9
    go_wp2
    go_ret3
    exact ⟨rfl, Below.refl _ _⟩
  have i2 := idx b 2 2 rfl (by omega)
  have i3 := idx b 3 3 rfl (by omega)
  have v2 := conv8 (bt b 2) (bt_nn _ _) (bt_lt _ _)
  have v3 := conv8 (bt b 3) (bt_nn _ _) (bt_lt _ _)
  have n2 := bt_nn b 2
  have l2 := bt_lt b 2
  have n3 := bt_nn b 3
  have l3 := bt_lt b 3
  have hN := bodyN_eq b
  by_cases h4 : b.size < 4 + bodyN b
  · rw [out_bad (head_few h h1 h2 h3 h4)]
    rw [h2] at i0
    rw [h3] at i1
    have h5 : (b.size : Int) < 4 + (256 * bt b 2 + bt b 3) := by omega
    clear h h1 h2 h3 h4 hN
    generalize bt b 2 = x at *
    generalize bt b 3 = y at *
    go_enter Try.func9, Try.ntmps9
    go_wp2
    go_quiet (fail)
    go_wp2
    go_ret3
    exact ⟨rfl, below_drewN (Below.refl _ _) _⟩
  · rw [out_good (head_yes (by omega) (by omega) h2 h3 (by omega))]
    rw [h2] at i0
    rw [h3] at i1
    have h5 : ¬ (b.size : Int) < 4 + (256 * bt b 2 + bt b 3) := by omega
    have sl := sl_m b 4 (4 + (256 * bt b 2 + bt b 3)) 4 (4 + bodyN b) rfl (by push_cast; omega) (by omega) (by omega)
    generalize b.extract 4 (4 + bodyN b) = s at *
    clear h h1 h2 h3 h4 hN
    generalize bt b 2 = x at *
    generalize bt b 3 = y at *
    go_enter Try.func9, Try.ntmps9
    go_wp2
    go_quiet (fail)
    go_wp2
    go_ret3
    exact ⟨rfl, below_drewN (Below.refl _ _) _⟩
set_option maxHeartbeats 1600000 in
theorem rtrailer_any (b : ByteArray) (w : World) (hs : b.size ≤ maxLen) (h : head b = none) : Calls Try.prog 13 #[.string b] w fun e w' => e = .returned (.string (trail b)) ∧ Below w.heap.size w w' := by
  have PB := Lib.hid (fun V => rbody_any b V hs)
  rw [out_good h] at PB
  obtain ⟨k1, k2, _, _, k5⟩ := head_no h
  have hz : (b.extract 4 (4 + bodyN b)).size = bodyN b := by simp; omega
  have hn : (bodyN b : Int) ≤ 65535 := bodyN_le b
  have HT := Lib.hid (show b.extract (4 + bodyN b) b.size = trail b from rfl)
  have sl := sl_l b (4 + ((b.extract 4 (4 + bodyN b)).size : Int)) (4 + bodyN b) b.size (by rw [hz]; push_cast; rfl) k5 rfl
  have hzz : ((b.extract 4 (4 + bodyN b)).size : Int) ≤ 65535 := by rw [hz]; exact hn
  rw [HT.out] at sl
  clear h k1 k2 k5 hz hn hs HT
  generalize b.extract 4 (4 + bodyN b) = s at *
  go_enter Try.func13, Try.ntmps13
  go_wp2_with fail
  refine (PB.out _).mono ?_
  rintro e w1 ⟨rfl, hb⟩
  go_wp2
  go_ret
  exact ⟨rfl, hb⟩
end Go.Proofs.Ytoeghlbljmdchaa.F2
