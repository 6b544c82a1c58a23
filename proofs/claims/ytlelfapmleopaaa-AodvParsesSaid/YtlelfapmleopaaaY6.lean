/-
  The document's example of a route error; facts on what bytes come to. No conditions.
-/
import Derived.Test.YtlelfapmleopaaaY4
import Derived.Test.YtlelfapmleopaaaY5
namespace Go.Proofs.Ytlelfapmleopaaa.Y6
open Go.ChangeShapes Go.WideShapes Go.ChangeAt Go.RowKit
open Go.Proofs.Ytlelfapmleopaaa.Ms
open Go.Proofs.Ytlelfapmleopaaa.Box
open Go.Proofs.Ytlelfapmleopaaa.Xv
open Go.Proofs.Ytlelfapmleopaaa.Y1
open Go.Proofs.Ytlelfapmleopaaa.Am
open Go.Proofs.Ytlelfapmleopaaa.Hs
open Go.Proofs.Ytlelfapmleopaaa.Or (st_yes)
open Go.Proofs.Ytlelfapmleopaaa.Hx (ex_built)
open Go.Proofs.Ytlelfapmleopaaa.Own (k5 ownM)
set_option linter.unusedVariables false
set_option maxRecDepth 100000
set_option maxRecDepth 100000
theorem ok_err {m : M} (h : m.kind = 5) : okE m = (M.same m { k5 m with kind := 5 } && (nums m && (okD m.ll && okX m.sl))) := by
  unfold okE bare
  rw [(own_err h).1, (own_err h).2, decide_eq_true h]
  rfl
theorem ok_no {m : M} (h : ¬ m.kind = 5) : okE m = false := by
  unfold okE
  rw [decide_eq_false h]
  rfl
theorem ok_pl {n m : M} (h : Pl n m) : okE n = okE m := by
  have hk : n.kind = m.kind := by rw [show n = _ from h]
  by_cases h5 : m.kind = 5
  · rw [ok_err h5, ok_err (hk.trans h5), show n = _ from h]
    rfl
  rw [ok_no h5, ok_no (by omega)]
theorem enc_pl {n m : M} (h : Pl n m) : encE n = encE m := by
  rw [show n = _ from h]
  rfl
theorem put_pl {n m : M} (h : Pl n m) : putE n = putE m := by
  unfold putE
  rw [ok_pl h, enc_pl h]
theorem ext_of {s : ByteArray} (n : Nat) : (outX (s.extract n s.size)).1.length ≤ s.size := by
  have := out_len (s.extract n s.size)
  have h2 : (s.extract n s.size).size ≤ s.size := by simp
  omega
theorem out_parts (s : ByteArray) : (outE s).1.ll.length ≤ 255 ∧ (outE s).1.sl.length ≤ s.size := by
  rcases head_cases s with ⟨i, e, h, he, _, _⟩ | ⟨r, n, h, _, _, hr, _⟩
  · rw [out_bad h he]; exact ⟨Nat.zero_le _, Nat.zero_le _⟩
  have hl := ext_of (s := s) n
  obtain ⟨⟨l, i, x⟩, hX⟩ : ∃ p, outX (s.extract n s.size) = p := ⟨_, rfl⟩
  rw [hX] at hl
  by_cases hx : x = 0
  · subst hx
    rw [Y1.out_yes h hX]
    refine ⟨?_, hl⟩
    rw [hr]
    show (dests (cnt s) (s.data.toList.drop 4)).length ≤ 255
    rw [dests_len]
    have := cnt_lt s
    omega
  · rw [out_ext h hX hx]; exact ⟨Nat.zero_le _, Nat.zero_le _⟩
theorem own_parts {m : M} (h : okE m = true) : ({ ownM m with la := none, lc := 0, sa := none, sc := 0 } : M).ll = m.ll ∧ ({ ownM m with la := none, lc := 0, sa := none, sc := 0 } : M).sl = m.sl ∧ M.same m { ownM m with la := none, lc := 0, sa := none, sc := 0 } = true := by
  obtain ⟨hk, hb, _⟩ := (ok_iff m).1 h
  have hs : M.same m (ownM m) = true := by
    unfold bare at hb
    rw [Bool.and_eq_true] at hb
    exact hb.2
  rw [(own_err hk).2] at hs ⊢
  exact ⟨rfl, rfl, hs⟩
/-- The bytes of one that may be begin with 3. -/
theorem first_of {m : M} (h : okE m = true) : bt (putE m) 0 = 3 := by
  rw [putE_yes h]
  rfl
/-- One that may be, its bytes read: itself. -/
theorem put_out {m : M} (h : okE m = true) : outE (putE m) = ({ ownM m with la := none, lc := 0, sa := none, sc := 0 }, 0, 0) := by
  rw [putE_yes h]
  exact put_back m h
/-- Bytes are those of what is read. -/
theorem out_put {s : ByteArray} (h : (outE s).2.2 = 0) (h0 : bt s 0 = 3) : okE (outE s).1 = true ∧ putE (outE s).1 = s ∧ (outE s).2.1 = 0 := by
  rcases Y1.out_cases s with ⟨h1, _⟩ | ⟨h1, _, h2⟩
  · exact absurd h h1
  · obtain ⟨h3, h4⟩ := h2 h0
    refine ⟨h3, ?_, h1⟩
    rw [putE_yes h3]
    exact Nu.text_eq (by rw [← h4])
theorem run_eqlDest (x y : El) (W : World) : (binOp .eql 50 (.agg #[.string x.1, .int .i64 x.2]) (.agg #[.string y.1, .int .i64 y.2])).run Try.prog W = .ok (.bool (elE x y)) W := by
  have hf : Try.prog.underlying 50 = some (.struct (Try.prog.fieldsOf 50)) := by kernel_rfl
  have hp : Try.prog.stoodInHeld 50 = false := by kernel_rfl
  have hq : (Op.equalIn 10000 50 (.agg #[.string x.1, .int .i64 x.2]) (.agg #[.string y.1, .int .i64 y.2])).run Try.prog W = .ok (elE x y) W := by
    rw [run_equalIn_struct W 9999 50 _ _ hf hp, elE_eq]
    simp only [Program.fieldsOf, Try.underlying50]
    refine eqF_str (by decide) Try.underlying9 rfl rfl ?_
    refine eqF_int (by decide) Try.underlying3 rfl rfl ?_
    rfl
  rw [run_eql_struct, hq]; rfl
theorem run_guardEq (x y : El) (o p : Operand) (W : World) : (eqGuard .eql 50 o p (.agg #[.string x.1, .int .i64 x.2]) (.agg #[.string y.1, .int .i64 y.2])).run Try.prog W = .ok () W := run_eqGuard_agg W .eql _ o p _ _ (by kernel_rfl)
theorem add_none (p : Addr) : p.add 0 = p := by
  unfold Addr.add
  rw [if_pos rfl]
theorem elE_self (x : El) : elE x x = true := by unfold elE; simp
def exB : ByteArray := ⟨#[3, 128, 0, 1, 97, 98, 99, 100, 0, 0, 0, 8]⟩
def abcd : ByteArray := ⟨#[97, 98, 99, 100]⟩
theorem ex1 : outE exB = ({ hdM exB with sl := [] }, 0, 0) := Y1.out_yes (n := 12) (head_yes (by decide) (by decide) (by decide) (by decide)) (Xv.out_yes (l := []) rfl (by decide))
theorem ex2 : hdM exB = { M.zero with kind := 5, flags := 1, ll := [(abcd, 8)] } := by
  have e : dests (cnt exB) (exB.data.toList.drop 4) = [(abcd, 8)] := by
    show [one [97, 98, 99, 100, 0, 0, 0, 8]] = _
    rfl
  unfold hdM
  rw [e]
  rfl
theorem bytes_same (a : ByteArray) : (a.toList == a.toList) = true := by simp
end Go.Proofs.Ytlelfapmleopaaa.Y6
