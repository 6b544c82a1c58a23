/-
  MsgChanged, what it rests on: the cells of a list, one behind the other.
-/
import Derived.Test.YtnjaoccienijbaaChg
import Derived.Laws.OwnMore
import Derived.Deep.AppendLies
namespace Go.Proofs.Ytnjaoccienijbaa.Chg
open Go.ChangeShapes Go.WideShapes Go.ChangeAt Go.RowKit
open Go.Proofs.Ytnjaoccienijbaa.Ms
open Go.Proofs.Ytnjaoccienijbaa.Box
set_option linter.unusedVariables false

def pairs (f g : El → Value) (l : List El) : List Value := l.flatMap fun x => [f x, g x]
theorem pairs_len (f g : El → Value) : ∀ l : List El, (pairs f g l).length = l.length * 2
  | [] => rfl
  | x :: l => by
    have := pairs_len f g l
    unfold pairs at this ⊢
    simp only [List.flatMap_cons, List.length_append, List.length_cons, List.length_nil, this]
    omega
theorem pairs_snoc (f g : El → Value) (l : List El) (x : El) : pairs f g (l ++ [x]) = pairs f g l ++ [f x, g x] := by simp [pairs]
theorem pairs_at (f g : El → Value) : ∀ (l : List El) (i : Nat) (h : i < l.length), (pairs f g l)[i * 2]? = some (f l[i]) ∧ (pairs f g l)[i * 2 + 1]? = some (g l[i])
  | x :: l, 0, h => ⟨rfl, rfl⟩
  | x :: l, i + 1, h => by
    have := pairs_at f g l i (by simpa using h)
    have e : pairs f g (x :: l) = f x :: g x :: pairs f g l := by simp [pairs]
    rw [e, show (i + 1) * 2 = i * 2 + 1 + 1 by omega, show i * 2 + 1 + 1 + 1 = (i * 2 + 1) + 1 + 1 by omega]
    simpa using this
theorem pairs_all (f g : El → Value) (l : List El) {R : Nat → Value → Prop} (h : ∀ i (hi : i < l.length), R (i * 2) (f l[i]) ∧ R (i * 2 + 1) (g l[i])) : ∀ j u, (pairs f g l)[j]? = some u → R j u := by
  intro j u hu
  have hj : j < l.length * 2 := by
    have := (List.getElem?_eq_some_iff.1 hu).1
    rwa [pairs_len] at this
  have hi : j / 2 < l.length := by omega
  obtain ⟨h1, h2⟩ := pairs_at f g l (j / 2) hi
  obtain ⟨r1, r2⟩ := h (j / 2) hi
  rcases Nat.mod_two_eq_zero_or_one j with hm | hm
  · rw [show j / 2 * 2 = j by omega] at h1 r1
    rw [h1] at hu
    cases hu
    exact r1
  · rw [show j / 2 * 2 + 1 = j by omega] at h2 r2
    rw [h2] at hu
    cases hu
    exact r2
theorem pairs_one (f g : El → Value) (hf : ∀ x, (f x).oneCell' = true) (hg : ∀ x, (g x).oneCell' = true) (l : List El) : ∀ u ∈ pairs f g l, u.oneCell' = true := by
  intro u hu
  simp only [pairs, List.mem_flatMap, List.mem_cons, List.not_mem_nil, or_false] at hu
  obtain ⟨x, _, rfl | rfl⟩ := hu
  · exact hf x
  · exact hg x
def fs (x : El) : Value := .string x.1
def fi (x : El) : Value := .int .i64 x.2
theorem drow_cells {w : World} {p : Addr} {l : List El} (h : DRow w (some p) l) : ∀ j u, (pairs fs fi l)[j]? = some u → w.cell? (p.add j) = some u :=
  pairs_all fs fi l (R := fun j u => w.cell? (p.add j) = some u) fun i hi => by
    obtain ⟨q, hq, _, h1, h2⟩ := h i hi
    cases hq
    exact ⟨h1, by rw [← Go.Deep.add_add]; exact h2⟩
theorem srow_cells {w : World} {p : Addr} {l : List El} (h : SRow w (some p) l) : ∀ j u, (pairs fi fs l)[j]? = some u → w.cell? (p.add j) = some u :=
  pairs_all fi fs l (R := fun j u => w.cell? (p.add j) = some u) fun i hi => by
    obtain ⟨q, hq, _, h1, h2⟩ := h i hi
    cases hq
    exact ⟨h1, by rw [← Go.Deep.add_add]; exact h2⟩
theorem drow_own {w : World} {g : Nat} {l : List El} (hg : g < w.heap.size) (h : ∀ j, j < l.length * 2 → w.cell? ⟨g, j, none⟩ = (pairs fs fi l)[j]?) : DRow w (some ⟨g, 0, none⟩) l := by
  intro i hi
  obtain ⟨h1, h2⟩ := pairs_at fs fi l i hi
  refine ⟨_, rfl, hg, ?_, ?_⟩
  · rw [Addr.add_lit, Nat.zero_add, h _ (by omega), h1]; rfl
  · rw [Addr.add_lit, Addr.add_lit, Nat.zero_add, h _ (by omega), h2]; rfl
theorem srow_own {w : World} {g : Nat} {l : List El} (hg : g < w.heap.size) (h : ∀ j, j < l.length * 2 → w.cell? ⟨g, j, none⟩ = (pairs fi fs l)[j]?) : SRow w (some ⟨g, 0, none⟩) l := by
  intro i hi
  obtain ⟨h1, h2⟩ := pairs_at fi fs l i hi
  refine ⟨_, rfl, hg, ?_, ?_⟩
  · rw [Addr.add_lit, Nat.zero_add, h _ (by omega), h1]; rfl
  · rw [Addr.add_lit, Addr.add_lit, Nat.zero_add, h _ (by omega), h2]; rfl
theorem drow_none {w : World} {l : List El} (h : DRow w none l) : l = [] := by
  cases l with
  | nil => rfl
  | cons x l => obtain ⟨_, h1, _⟩ := h 0 (by simp); cases h1
theorem srow_none {w : World} {l : List El} (h : SRow w none l) : l = [] := by
  cases l with
  | nil => rfl
  | cons x l => obtain ⟨_, h1, _⟩ := h 0 (by simp); cases h1
theorem infoD : (Try.prog.info? 37).map (fun i => (i.zero, i.size, i.bytes)) = some (some (.agg #[.string ByteArray.empty, .int .i64 0]), 2, 24) := by kernel_rfl
theorem infoS : (Try.prog.info? 39).map (fun i => (i.zero, i.size, i.bytes)) = some (some (.agg #[.int .i64 0, .string ByteArray.empty]), 2, 24) := by kernel_rfl
end Go.Proofs.Ytnjaoccienijbaa.Chg
