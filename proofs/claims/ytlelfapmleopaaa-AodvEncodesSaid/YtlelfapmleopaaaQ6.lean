/-
  The document's example of a request; facts on what bytes come to. No conditions.
-/
import Derived.Test.YtlelfapmleopaaaQ4
import Derived.Test.YtlelfapmleopaaaQ5
namespace Go.Proofs.Ytlelfapmleopaaa.Q6
open Go.ChangeShapes Go.WideShapes Go.ChangeAt Go.RowKit
open Go.Proofs.Ytlelfapmleopaaa.Ms
open Go.Proofs.Ytlelfapmleopaaa.Box
open Go.Proofs.Ytlelfapmleopaaa.Xv
open Go.Proofs.Ytlelfapmleopaaa.Q1
open Go.Proofs.Ytlelfapmleopaaa.Am
open Go.Proofs.Ytlelfapmleopaaa.Hs
open Go.Proofs.Ytlelfapmleopaaa.Or (st_yes)
open Go.Proofs.Ytlelfapmleopaaa.Own (k3)
set_option linter.unusedVariables false
set_option maxRecDepth 100000
set_option maxRecDepth 100000
theorem ok_pl {n m : M} (h : Pl n m) : okQ n = okQ m := by
  rw [show n = _ from h]
  rfl
theorem put_pl {n m : M} (h : Pl n m) : putQ n = putQ m := by
  rw [show n = _ from h]
  rfl
theorem ext_of {s : ByteArray} (k : ¬ s.size < 24) : (outX (s.extract 24 s.size)).1.length ≤ s.size := by
  have := out_len (s.extract 24 s.size)
  have h2 : (s.extract 24 s.size).size ≤ s.size := by simp
  omega
theorem out_parts (s : ByteArray) : (outQ s).1.ll = [] ∧ (outQ s).1.sl.length ≤ s.size := by
  by_cases h : s.size < 24
  · rw [out_short h]; exact ⟨rfl, Nat.zero_le _⟩
  by_cases k : bt s 1 % 8 ≠ 0 ∨ bt s 2 ≠ 0
  · rw [out_bits h k]; exact ⟨rfl, Nat.zero_le _⟩
  have hl := ext_of h
  obtain ⟨⟨l, i, x⟩, hX⟩ : ∃ p, outX (s.extract 24 s.size) = p := ⟨_, rfl⟩
  rw [hX] at hl
  by_cases hx : x = 0
  · subst hx
    rw [Q1.out_yes h k hX]
    exact ⟨rfl, hl⟩
  · rw [out_ext h k hX hx]; exact ⟨rfl, Nat.zero_le _⟩
/-- A request that may be, its bytes read: itself. -/
theorem put_out {m : M} (h : okQ m = true) : outQ (putQ m) = ({ k3 m with kind := 3, sa := none, sc := 0 }, 0, 0) ∧ M.same m { k3 m with kind := 3, sa := none, sc := 0 } = true := by
  rw [putQ_yes h]
  refine ⟨put_back m h, ?_⟩
  obtain ⟨hk, hb, _⟩ := (ok_iff m).1 h
  rw [← hk]
  exact hb
/-- Bytes of a request are those of what is read. -/
theorem out_put {s : ByteArray} (h : (outQ s).2.2 = 0) (h0 : bt s 0 = 1) : okQ (outQ s).1 = true ∧ putQ (outQ s).1 = s ∧ (outQ s).2.1 = 0 := by
  rcases Q1.out_cases s with ⟨h1, _⟩ | ⟨h1, _, h2⟩
  · exact absurd h h1
  · obtain ⟨h3, h4⟩ := h2 h0
    refine ⟨h3, ?_, h1⟩
    rw [putQ_yes h3]
    exact Nu.text_eq (by rw [← h4])
def exB : ByteArray := ⟨#[1, 128, 0, 5, 0, 0, 0, 7, 97, 98, 99, 100, 0, 0, 0, 8, 101, 102, 103, 104, 0, 0, 0, 9, 1, 0]⟩
theorem ex1 : outQ exB = ({ hdM exB with sl := [(⟨#[]⟩, 1)] }, 0, 0) := Q1.out_yes (by decide) (by decide) (Xv.out_yes (l := [(⟨#[]⟩, 1)]) rfl (by decide))
theorem ex2 : hdM exB = { M.zero with kind := 3, flags := 16, hops := 5, nonce := 7, addr := ⟨#[97, 98, 99, 100]⟩, seq := 8, orig := ⟨#[101, 102, 103, 104]⟩, seq2 := 9 } := by
  have e1 : exB.extract 8 12 = ⟨#[97, 98, 99, 100]⟩ := Nu.text_eq (by decide)
  have e2 : exB.extract 16 20 = ⟨#[101, 102, 103, 104]⟩ := Nu.text_eq (by decide)
  unfold hdM
  rw [e1, e2]
  rfl
theorem bytes_same (a : ByteArray) : (a.toList == a.toList) = true := by simp
end Go.Proofs.Ytlelfapmleopaaa.Q6
