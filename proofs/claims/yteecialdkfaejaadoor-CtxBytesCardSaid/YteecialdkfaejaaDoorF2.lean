/-
  A cursor at work, whatever it is; the head of a datagram: the program's readHead, Body, Trailer, Wrap, and the document's. Condition: at most 2^20 bytes.
-/
import Derived.Test.YteecialdkfaejaaDoorF1
import Derived.Test.YteecialdkfaejaaDoorP5
namespace Go.Proofs.YteecialdkfaejaaDoor.F2
open Go.ChangeShapes Go.WideShapes Go.ChangeAt Go.RowKit
open Go.Proofs.YteecialdkfaejaaDoor.F1
open Go.Proofs.YteecialdkfaejaaDoor.Nu
open Go.Proofs.YteecialdkfaejaaDoor.Cur (numL num_yes num_no text_yes text_no new_any left_ok hasB)
open Go.Proofs.YteecialdkfaejaaDoor.Bk (Bk Sh shC cur cur_one loadVarK wpList_builtK wpList_loadK wpList_storeK run_loadK below_setRow alloc_size)
open Go.Proofs.YteecialdkfaejaaDoor.Hs
open Go.Proofs.YteecialdkfaejaaDoor.Hx (conv8 ex_built H.storeRow)
set_option linter.unusedVariables false
set_option maxRecDepth 100000
set_option maxRecDepth 100000

theorem bcall {w W w1 : World} (h : Below w.heap.size w W) (hb : Below W.heap.size W w1) : Below w.heap.size w w1 := h.trans (hb.mono h.size)
theorem balloc {w W : World} (h : Below w.heap.size w W) (o : Obj) : Below w.heap.size w (W.alloc o) := h.alloc h.size o
theorem idx (b : ByteArray) (k : Nat) (i : Int) (hi : i = k) (h : k < b.size) (W : World) : (Instr.index 9 (.string b) (.int .i64 i)).run Tryd.prog W = .ok (.int .u8 (bt b k)) W := by
  subst hi
  rw [run_index_string W 9 b .i64 (k : Int) Tryd.underlying9, dif_pos ⟨by omega, by omega⟩, ← bt_eq b k h]
  rfl
theorem sl_m (s : ByteArray) (i j : Int) (lo hi : Nat) (hi' : i = lo) (hj : j = hi) (h1 : lo ≤ hi) (h2 : hi ≤ s.size) (W : World) :
    (Instr.slice 9 (.string s) (some (.int .i64 i)) (some (.int .i64 j)) none).run Tryd.prog W = .ok (.string (s.extract lo hi)) W := by
  subst hi' hj
  have := run_slice_string (P := Tryd.prog) W 9 s .i64 .i64 (lo : Int) (hi : Int) Tryd.underlying9 (by omega) (by omega) (by omega)
  simpa using this
theorem sl_l (s : ByteArray) (i : Int) (lo hi : Nat) (hi' : i = lo) (h1 : lo ≤ s.size) (hs : s.size = hi) (W : World) :
    (Instr.slice 9 (.string s) (some (.int .i64 i)) none none).run Tryd.prog W = .ok (.string (s.extract lo hi)) W := by
  subst hi' hs
  have := run_slice_string_l (P := Tryd.prog) (t := 9) (s := s) W Tryd.underlying9 .i64 (lo : Int) (by omega) (by omega)
  simpa using this
theorem results_head {P : Program} {fn : Func} {o p q r : Nat} {ty : TypeId} (h : fn.results = #[.tmp o, .cell p ty, .tmp q, .tmp r]) (tmps : Array Value) (w : World) (g : Nat) (u : Value)
    (y : Value) (hy : tmps.getD o undef = y) (hp : tmps.getD p undef = .pointer (some ⟨g, 0, none⟩)) (hl : (loadVar ty ⟨g, 0, none⟩).run P w = .ok u w) (v : Value) (hv : tmps.getD q undef = v) (x : Value) (hx : tmps.getD r undef = x) :
    (results fn tmps).run P w = .ok (.tuple #[y, u, v, x]) w := by
  have hy' : tmps[o]?.getD undef = y := by simpa using hy
  have hp' : tmps[p]?.getD undef = .pointer (some ⟨g, 0, none⟩) := by simpa using hp
  have hv' : tmps[q]?.getD undef = v := by simpa using hv
  have hx' : tmps[r]?.getD undef = x := by simpa using hx
  simp [results, h, hy', hp', hv', hx', asAddr, hl]

/-- An empty cursor's cells. -/
def noC : Array Value := cur ⟨#[]⟩ 0 0 false
/-- One number off a cursor that may be, whether it is all there or not. -/
theorem num_any (s : ByteArray) (p : Nat) (x : Bool) (k : Nat) (hs : s.size ≤ 1048576) (hp : p ≤ s.size) (h1 : 1 ≤ k) (h7 : k ≤ 7) :
    ∃ (v : Int) (q : Nat) (y : Bool), q ≤ s.size ∧ (y = false → x = false ∧ q = p + k ∧ p + k ≤ s.size) ∧
      ∀ w, Calls Tryd.prog 94 #[.agg (cur s p s.size x), .int .i64 k] w fun e w' => e = .returned (.tuple #[.int .i64 v, .agg (cur s q s.size y)]) ∧ Below w.heap.size w w' := by
  have hm : s.size ≤ maxLen := by unfold maxLen; omega
  by_cases h : x = false ∧ p + k ≤ s.size
  · obtain ⟨rfl, h⟩ := h
    refine ⟨((numL ((s.data.toList.drop p).take k) : Nat) : Int), p + k, false, h, fun _ => ⟨rfl, rfl, h⟩, fun w => ?_⟩
    have := num_yes s p s.size k w hm hp (Nat.le_refl _) h h1 h7
    unfold cur
    push_cast
    exact this
  · have hb : hasB p s.size k x = false := by
      unfold hasB
      cases x with
      | true => rfl
      | false =>
        have h2 : ¬ p + k ≤ s.size := fun hh => h ⟨rfl, hh⟩
        simp only [Bool.not_false, Bool.true_and, Bool.and_eq_false_iff, decide_eq_false_iff_not]
        right
        omega
    exact ⟨0, p, true, hp, (fun h => nomatch h), fun w => num_no s p s.size k x w hm hp (Nat.le_refl _) hb (by omega) (by omega)⟩
theorem num_is (s : ByteArray) (p : Nat) (hs : s.size ≤ 1048576) (h : p + 1 ≤ s.size) (w : World) :
    Calls Tryd.prog 94 #[.agg (cur s p s.size false), .int .i64 1] w fun e w' => e = .returned (.tuple #[.int .i64 (bt s p), .agg (cur s (p + 1 : Nat) s.size false)]) ∧ Below w.heap.size w w' := by
  have := num_yes s p s.size 1 w (by unfold maxLen; omega) (by omega) (Nat.le_refl _) h (by omega) (by omega)
  rw [num_one s p (by omega)] at this
  unfold cur
  push_cast
  exact this

/-- What stands in readHead: the answer's cursor, the cursor. -/
structure G (w0 w : World) (cb : Nat) (c : Array Value) : Prop where
  res : Bk 105 w w0.heap.size noC
  cur : Bk 105 w cb c
  ne : w0.heap.size < cb
  bel : Below w0.heap.size w0 w
theorem G.call {w0 w w' : World} {cb : Nat} {c : Array Value} (g : G w0 w cb c) (hb : Below w.heap.size w w') : G w0 w' cb c := ⟨g.res.below hb, g.cur.below hb, g.ne, g.bel.trans (hb.mono g.bel.size)⟩
theorem G.put {w0 w : World} {cb : Nat} {c : Array Value} (g : G w0 w cb c) (c' : Array Value) : G w0 (w.setRow cb c') cb c' :=
  ⟨g.res.row (by have := g.ne; omega) _, g.cur.put _, g.ne, below_setRow g.bel (Nat.le_of_lt g.ne) _⟩
/-- The answer of readHead: a number, a cursor, a place, an error. -/
def HeadIs (n : Int) (c : Array Value) (i x : Int) (w : World) (e : Ending) (w' : World) : Prop := e = .returned (.tuple #[.int .i64 n, .agg c, .int .i64 i, .int .i64 x]) ∧ Below w.heap.size w w'
/-- The answer of Body. -/
def BodyIs (o : ByteArray × Int × Int) (w : World) (e : Ending) (w' : World) : Prop := e = .returned (.tuple #[.string o.1, .int .i64 o.2.1, .int .i64 o.2.2]) ∧ Below w.heap.size w w'
theorem out_bad {b : ByteArray} {i x : Int} (h : head b = some (i, x)) : outB b = (⟨#[]⟩, i, x) := by unfold outB; rw [h]
theorem out_good {b : ByteArray} (h : head b = none) : outB b = (b.extract 4 (4 + bodyN b), 0, 0) := by unfold outB; rw [h]
theorem head_long {b : ByteArray} (h : 65535 < b.size) : head b = some (65535, 10) := by unfold head; rw [if_pos h]
theorem head_short {b : ByteArray} (h : b.size < 4) : head b = some ((b.size : Int), 2) := by unfold head; rw [if_neg (by omega), if_pos h]
theorem head_kind {b : ByteArray} (h : ¬ 65535 < b.size) (h1 : ¬ b.size < 4) (h2 : ¬ bt b 0 = 42) : head b = some (0, 4) := by unfold head; rw [if_neg h, if_neg h1, if_pos h2]
theorem head_vers {b : ByteArray} (h : ¬ 65535 < b.size) (h1 : ¬ b.size < 4) (h2 : bt b 0 = 42) (h3 : ¬ bt b 1 = 2) : head b = some (1, 4) := by unfold head; rw [if_neg h, if_neg h1, if_neg (by omega), if_pos h3]
theorem head_few {b : ByteArray} (h : ¬ 65535 < b.size) (h1 : ¬ b.size < 4) (h2 : bt b 0 = 42) (h3 : bt b 1 = 2) (h4 : b.size < 4 + bodyN b) : head b = some ((b.size : Int), 2) := by
  have := bodyN_eq b
  unfold head; rw [if_neg h, if_neg h1, if_neg (by omega), if_neg (by omega), if_pos (by omega)]
theorem below_drewN {w W : World} (h : Below w.heap.size w W) : ∀ n, Below w.heap.size w (W.drewN n)
  | 0 => h
  | n + 1 => (below_drewN h n).drew
end Go.Proofs.YteecialdkfaejaaDoor.F2
