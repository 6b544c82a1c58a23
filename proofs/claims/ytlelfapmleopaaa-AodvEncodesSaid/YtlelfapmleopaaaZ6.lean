/-
  The document's example of a reply, and what acknowledges; facts on what bytes come to. No conditions.
-/
import Derived.Test.YtlelfapmleopaaaZ4
import Derived.Test.YtlelfapmleopaaaZ5
namespace Go.Proofs.Ytlelfapmleopaaa.Z6
open Go.ChangeShapes Go.WideShapes Go.ChangeAt Go.RowKit
open Go.Proofs.Ytlelfapmleopaaa.Ms
open Go.Proofs.Ytlelfapmleopaaa.Box
open Go.Proofs.Ytlelfapmleopaaa.Xv
open Go.Proofs.Ytlelfapmleopaaa.Z1
open Go.Proofs.Ytlelfapmleopaaa.Am
open Go.Proofs.Ytlelfapmleopaaa.Hs
open Go.Proofs.Ytlelfapmleopaaa.Or (st_yes)
open Go.Proofs.Ytlelfapmleopaaa.Hx (ex_built)
open Go.Proofs.Ytlelfapmleopaaa.Own (k4 k6 ownM)
set_option linter.unusedVariables false
set_option maxRecDepth 100000
set_option maxRecDepth 100000
theorem ok_rep' {m : M} (h : m.kind = 4) : okP m = (M.same m { k4 m with kind := 4 } && (reply m && okX m.sl)) := by
  rw [Z2.ok_rep h]
  unfold bare
  rw [(own_rep h).1, (own_rep h).2]
  rfl
theorem ok_ack' {m : M} (h : m.kind = 6) : okP m = (M.same m { k6 m with kind := 6 } && okX m.sl) := by
  rw [Z2.ok_ack h]
  unfold bare
  rw [(own_ack h).1, (own_ack h).2]
  rfl
theorem ok_pl {n m : M} (h : Pl n m) : okP n = okP m := by
  have hk : n.kind = m.kind := by rw [show n = _ from h]
  by_cases h4 : m.kind = 4
  · rw [ok_rep' h4, ok_rep' (hk.trans h4), show n = _ from h]
    rfl
  by_cases h6 : m.kind = 6
  · rw [ok_ack' h6, ok_ack' (hk.trans h6), show n = _ from h]
    rfl
  rw [Z2.ok_no h4 h6, Z2.ok_no (by omega) (by omega)]
theorem enc_pl {n m : M} (h : Pl n m) : encP n = encP m := by
  rw [show n = _ from h]
  rfl
theorem put_pl {n m : M} (h : Pl n m) : putP n = putP m := by
  unfold putP
  rw [ok_pl h, enc_pl h]
theorem ext_of {s : ByteArray} (n : Nat) : (outX (s.extract n s.size)).1.length ≤ s.size := by
  have := out_len (s.extract n s.size)
  have h2 : (s.extract n s.size).size ≤ s.size := by simp
  omega
theorem out_parts (s : ByteArray) : (outP s).1.ll = [] ∧ (outP s).1.sl.length ≤ s.size := by
  rcases head_cases s with ⟨i, e, h, he, _, _⟩ | ⟨r, n, h, _, _, _, _, hr, _⟩
  · rw [out_bad h he]; exact ⟨rfl, Nat.zero_le _⟩
  have hl := ext_of (s := s) n
  obtain ⟨⟨l, i, x⟩, hX⟩ : ∃ p, outX (s.extract n s.size) = p := ⟨_, rfl⟩
  rw [hX] at hl
  by_cases hx : x = 0
  · subst hx
    rw [Z1.out_yes h hX]
    exact ⟨hr, hl⟩
  · rw [out_ext h hX hx]; exact ⟨rfl, Nat.zero_le _⟩
theorem own_parts {m : M} (h : okP m = true) : ({ ownM m with sa := none, sc := 0 } : M).ll = [] ∧ ({ ownM m with sa := none, sc := 0 } : M).sl = m.sl ∧ M.same m { ownM m with sa := none, sc := 0 } = true := by
  obtain ⟨hb, _, hk⟩ := (ok_iff m).1 h
  have hs : M.same m (ownM m) = true := by
    unfold bare at hb
    rw [Bool.and_eq_true] at hb
    exact hb.2
  rcases hk with hk | ⟨hk, _⟩
  · rw [(own_ack hk).2] at hs ⊢
    exact ⟨rfl, rfl, hs⟩
  · rw [(own_rep hk).2] at hs ⊢
    exact ⟨rfl, rfl, hs⟩
/-- The bytes of one that may be begin with 2 or 4. -/
theorem first_of {m : M} (h : okP m = true) : bt (putP m) 0 = 2 ∨ bt (putP m) 0 = 4 := by
  obtain ⟨_, _, hk⟩ := (ok_iff m).1 h
  rw [putP_yes h]
  unfold bt
  show (((encP m).getD 0 0).toNat : Int) = 2 ∨ (((encP m).getD 0 0).toNat : Int) = 4
  unfold encP
  rcases hk with hk | ⟨hk, _⟩
  · right; rw [hd_ack hk]; rfl
  · left; rw [hd_rep hk]; rfl
/-- One that may be, its bytes read: itself. -/
theorem put_out {m : M} (h : okP m = true) : outP (putP m) = ({ ownM m with sa := none, sc := 0 }, 0, 0) := by
  rw [putP_yes h]
  exact put_back m h
/-- Bytes are those of what is read. -/
theorem out_put {s : ByteArray} (h : (outP s).2.2 = 0) (h0 : bt s 0 = 2 ∨ bt s 0 = 4) : okP (outP s).1 = true ∧ putP (outP s).1 = s ∧ (outP s).2.1 = 0 := by
  rcases Z1.out_cases s with ⟨h1, _⟩ | ⟨h1, _, h2⟩
  · exact absurd h h1
  · obtain ⟨h3, h4⟩ := h2 h0
    refine ⟨h3, ?_, h1⟩
    rw [putP_yes h3]
    exact Nu.text_eq (by rw [← h4])
def exB : ByteArray := ⟨#[2, 64, 24, 5, 97, 98, 99, 100, 0, 0, 0, 8, 101, 102, 103, 104, 0, 0, 0, 9]⟩
theorem ex1 : outP exB = ({ hdM exB with sl := [] }, 0, 0) := Z1.out_yes (head_rep (by decide) (by decide) (by decide)) (Xv.out_yes (l := []) rfl (by decide))
theorem ex2 : hdM exB = { M.zero with kind := 4, flags := 1, plen := 24, hops := 5, addr := ⟨#[97, 98, 99, 100]⟩, seq := 8, orig := ⟨#[101, 102, 103, 104]⟩, interval := 9 } := by
  have e1 : exB.extract 4 8 = ⟨#[97, 98, 99, 100]⟩ := Nu.text_eq (by decide)
  have e2 : exB.extract 12 16 = ⟨#[101, 102, 103, 104]⟩ := Nu.text_eq (by decide)
  unfold hdM
  rw [e1, e2]
  rfl
theorem ok_ackM : okP ackM = true := (ok_iff _).2 ⟨by unfold bare; rw [(own_ack rfl).1, (own_ack rfl).2]; unfold M.same M.flatE k6 ackM M.zero; simp, rfl, .inl rfl⟩
theorem bytes_same (a : ByteArray) : (a.toList == a.toList) = true := by simp
end Go.Proofs.Ytlelfapmleopaaa.Z6
