/-
  A cursor at work, whatever it is; the head of a datagram: the program's readHead, Body, Trailer, Wrap, and the document's. Condition: at most 2^20 bytes.
-/
import Derived.Test.YtjhfpobjbijcpaaDoorA01
import Derived.Test.YtjhfpobjbijcpaaDoorA11
namespace Go.Proofs.YtjhfpobjbijcpaaDoor.F2
open Go.ChangeShapes Go.WideShapes Go.ChangeAt Go.RowKit
open Go.Proofs.YtjhfpobjbijcpaaDoor.F1
open Go.Proofs.YtjhfpobjbijcpaaDoor.Nu
open Go.Proofs.YtjhfpobjbijcpaaDoor.Cur (numL)
open Go.Proofs.YtjhfpobjbijcpaaDoor.Bk (Bk Sh loadVarK wpList_builtK wpList_loadK wpList_storeK run_loadK alloc_size)
open Go.Proofs.YtjhfpobjbijcpaaDoor.Hs
open Go.Proofs.YtjhfpobjbijcpaaDoor.Hx (conv8)
set_option linter.unusedVariables false
set_option maxRecDepth 100000
set_option maxRecDepth 100000

theorem bcall {w W w1 : World} (h : Below w.heap.size w W) (hb : Below W.heap.size W w1) : Below w.heap.size w w1 := h.trans (hb.mono h.size)
theorem balloc {w W : World} (h : Below w.heap.size w W) (o : Obj) : Below w.heap.size w (W.alloc o) := h.alloc h.size o
theorem idx (b : ByteArray) (k : Nat) (i : Int) (hi : i = k) (h : k < b.size) (W : World) : (Instr.index 9 (.string b) (.int .i64 i)).run Tryd.prog W = .ok (.int .u8 (bt b k)) W := by
  subst hi
  rw [run_index_string W 9 b .i64 (k : Int) Tryd.underlying9, dif_pos ⟨by omega, by omega⟩, ← bt_eq b k h]
  rfl
theorem sl_m (s : ByteArray) (i j : Int) (lo hi : Nat) (hi' : i = lo) (hj : j = hi) (h1 : lo ≤ hi) (h2 : hi ≤ s.size) (W : World) :
    (Instr.slice 9 (.string s) (some (.int .i64 i)) (some (.int .i64 j)) none).run Tryd.prog W = .ok (.string (s.extract lo hi)) W := by
  subst hi' hj
  have := run_slice_string (P := Tryd.prog) W 9 s .i64 .i64 (lo : Int) (hi : Int) Tryd.underlying9 (by omega) (by omega) (by omega)
  simpa using this
theorem sl_l (s : ByteArray) (i : Int) (lo hi : Nat) (hi' : i = lo) (h1 : lo ≤ s.size) (hs : s.size = hi) (W : World) :
    (Instr.slice 9 (.string s) (some (.int .i64 i)) none none).run Tryd.prog W = .ok (.string (s.extract lo hi)) W := by
  subst hi' hs
  have := run_slice_string_l (P := Tryd.prog) (t := 9) (s := s) W Tryd.underlying9 .i64 (lo : Int) (by omega) (by omega)
  simpa using this
/-- The answer of Body. -/
def BodyIs (o : ByteArray × Int × Int) (w : World) (e : Ending) (w' : World) : Prop := e = .returned (.tuple #[.string o.1, .int .i64 o.2.1, .int .i64 o.2.2]) ∧ Below w.heap.size w w'
theorem out_bad {b : ByteArray} {i x : Int} (h : head b = some (i, x)) : outB b = (⟨#[]⟩, i, x) := by unfold outB; rw [h]
theorem out_good {b : ByteArray} (h : head b = none) : outB b = (b.extract 4 (4 + bodyN b), 0, 0) := by unfold outB; rw [h]
theorem head_long {b : ByteArray} (h : 65535 < b.size) : head b = some (65535, 10) := by unfold head; rw [if_pos h]
theorem head_short {b : ByteArray} (h : b.size < 4) : head b = some ((b.size : Int), 2) := by unfold head; rw [if_neg (by omega), if_pos h]
theorem head_kind {b : ByteArray} (h : ¬ 65535 < b.size) (h1 : ¬ b.size < 4) (h2 : ¬ bt b 0 = 42) : head b = some (0, 4) := by unfold head; rw [if_neg h, if_neg h1, if_pos h2]
theorem head_vers {b : ByteArray} (h : ¬ 65535 < b.size) (h1 : ¬ b.size < 4) (h2 : bt b 0 = 42) (h3 : ¬ bt b 1 = 2) : head b = some (1, 4) := by unfold head; rw [if_neg h, if_neg h1, if_neg (by omega), if_pos h3]
theorem head_few {b : ByteArray} (h : ¬ 65535 < b.size) (h1 : ¬ b.size < 4) (h2 : bt b 0 = 42) (h3 : bt b 1 = 2) (h4 : b.size < 4 + bodyN b) : head b = some ((b.size : Int), 2) := by
  have := bodyN_eq b
  unfold head; rw [if_neg h, if_neg h1, if_neg (by omega), if_neg (by omega), if_pos (by omega)]
theorem below_drewN {w W : World} (h : Below w.heap.size w W) : ∀ n, Below w.heap.size w (W.drewN n)
  | 0 => h
  | n + 1 => (below_drewN h n).drew
set_option maxHeartbeats 1600000 in
/-- The document's Body. -/
theorem rbody_any (b : ByteArray) (w : World) (hs : b.size ≤ maxLen) : Calls Tryd.prog 7 #[.string b] w (BodyIs (outB b) w) := by
  by_cases h : 65535 < b.size
  · rw [out_bad (head_long h)]
    have hb : (65535 : Int) < b.size := by omega
    unfold maxLen at hs
    clear h
    go_enter Tryd.func7, Tryd.ntmps7
    go_wp2
    go_ret3
    exact ⟨rfl, Below.refl _ _⟩
  have hb : (b.size : Int) ≤ 65535 := by omega
  clear hs
  by_cases h1 : b.size < 4
  · rw [out_bad (head_short h1)]
    have hb4 : (b.size : Int) < 4 := by omega
    clear h
    go_enter Tryd.func7, Tryd.ntmps7
    go_wp2
    go_ret3
    exact ⟨rfl, Below.refl _ _⟩
  have i0 := idx b 0 0 rfl (by omega)
  have hb4 : ¬ (b.size : Int) < 4 := by omega
  by_cases h2 : bt b 0 = 42
  rotate_left
  · rw [out_bad (head_kind h h1 h2)]
    have n0 := bt_nn b 0
    have l0 := bt_lt b 0
    clear h h1
    generalize bt b 0 = x at *
    go_enter Tryd.func7, Tryd.ntmps7
    go_wp2
    go_ret3
    exact ⟨rfl, Below.refl _ _⟩
  have i1 := idx b 1 1 rfl (by omega)
  by_cases h3 : bt b 1 = 2
  rotate_left
  · rw [out_bad (head_vers h h1 h2 h3)]
    rw [h2] at i0
    have n0 := bt_nn b 1
    have l0 := bt_lt b 1
    clear h h1 h2
    generalize bt b 1 = x at *
    go_enter Tryd.func7, Tryd.ntmps7
    go_wp2
    go_ret3
    exact ⟨rfl, Below.refl _ _⟩
  have i2 := idx b 2 2 rfl (by omega)
  have i3 := idx b 3 3 rfl (by omega)
  have v2 := conv8 (bt b 2) (bt_nn _ _) (bt_lt _ _)
  have v3 := conv8 (bt b 3) (bt_nn _ _) (bt_lt _ _)
  have n2 := bt_nn b 2
  have l2 := bt_lt b 2
  have n3 := bt_nn b 3
  have l3 := bt_lt b 3
  have hN := bodyN_eq b
  by_cases h4 : b.size < 4 + bodyN b
  · rw [out_bad (head_few h h1 h2 h3 h4)]
    rw [h2] at i0
    rw [h3] at i1
    have h5 : (b.size : Int) < 4 + (256 * bt b 2 + bt b 3) := by omega
    clear h h1 h2 h3 h4 hN
    generalize bt b 2 = x at *
    generalize bt b 3 = y at *
    go_enter Tryd.func7, Tryd.ntmps7
    go_wp2
    go_quiet (fail)
    go_wp2
    go_ret3
    exact ⟨rfl, below_drewN (Below.refl _ _) _⟩
  · rw [out_good (head_yes (by omega) (by omega) h2 h3 (by omega))]
    rw [h2] at i0
    rw [h3] at i1
    have h5 : ¬ (b.size : Int) < 4 + (256 * bt b 2 + bt b 3) := by omega
    have sl := sl_m b 4 (4 + (256 * bt b 2 + bt b 3)) 4 (4 + bodyN b) rfl (by push_cast; omega) (by omega) (by omega)
    generalize b.extract 4 (4 + bodyN b) = s at *
    clear h h1 h2 h3 h4 hN
    generalize bt b 2 = x at *
    generalize bt b 3 = y at *
    go_enter Tryd.func7, Tryd.ntmps7
    go_wp2
    go_quiet (fail)
    go_wp2
    go_ret3
    exact ⟨rfl, below_drewN (Below.refl _ _) _⟩
end Go.Proofs.YtjhfpobjbijcpaaDoor.F2
