/-
  A message of Subs alone: whether its parts are few, and whether two are the same; a list of Subs that came in, opened. Condition: lists of at most 2^20 elements.
-/
import Derived.Test.YteecialdkfaejaaDoorP4
import Derived.Test.YteecialdkfaejaaDoorFew
import Derived.Test.YteecialdkfaejaaDoorOpen
namespace Go.Proofs.YteecialdkfaejaaDoor.Sm
open Go.ChangeShapes Go.WideShapes Go.ChangeAt Go.RowKit Go.Deep
open Go.Proofs.YteecialdkfaejaaDoor.Ms
open Go.Proofs.YteecialdkfaejaaDoor.Few
open Go.Proofs.YteecialdkfaejaaDoor.Open
set_option linter.unusedVariables false
set_option maxRecDepth 100000
set_option maxRecDepth 100000

/-- A message that has Subs alone. -/
def mS (a : Option Addr) (l : List El) (c : Nat) : M := { M.zero with sa := a, sl := l, sc := c }
theorem built_mS (a : Option Addr) (n c : Nat) (l : List El) (h : l.length = n) : Tryd.prog.built 40 [(24, .slice a n c)] = some (mS a l c).cells := by
  subst h
  kernel_rfl
theorem same_mS (a a' : Option Addr) (l l' : List El) (c c' : Nat) : M.same (mS a l c) (mS a' l' c') = decide (l = l') := by
  have h1 : M.flatE (mS a l c) (mS a' l' c') = true := by
    unfold M.flatE mS M.zero
    simp
  have h2 : (mS a l c).ll = (mS a' l' c').ll := rfl
  unfold M.same
  rw [h1, decide_eq_true h2]
  rfl
theorem in_mS {a : Option Addr} {l : List El} {c : Nat} {w : World} (h : SRow w a l) (hn : l.length ≤ 1048576) : (mS a l c).In w := ⟨DRow.nil _ _, h, Nat.zero_le _, hn⟩
/-- Few Subs, of few bytes? -/
def fewS (l : List El) : Bool := decide (l.length ≤ 60) && small 300 l
theorem few_mS (a : Option Addr) (l : List El) (c : Nat) : fewB (mS a l c) = fewS l := by
  show (decide (0 ≤ 300) && decide (l.length ≤ 60) && decide (wrap64 (((0 : Nat) : Int) + ((0 : Nat) : Int)) ≤ 200) && decide (wrap64 (((0 : Nat) : Int) + ((0 : Nat) : Int)) ≤ 200) && decide (wrap64 (((0 : Nat) : Int) + ((0 : Nat) : Int)) ≤ 200) && decide (0 ≤ 300) && true && small 300 l) = _
  rw [show wrap64 (((0 : Nat) : Int) + ((0 : Nat) : Int)) = 0 from IntWalk.wrap64_in 0 (by omega)]
  unfold fewS
  generalize decide (l.length ≤ 60) = x
  generalize small 300 l = y
  cases x <;> cases y <;> rfl
theorem few_len {l : List El} (h : fewS l = true) : l.length ≤ 60 := by
  unfold fewS at h
  rw [Bool.and_eq_true, decide_eq_true_eq] at h
  exact h.1
theorem few_size {l : List El} (h : fewS l = true) : ∀ x ∈ l, x.1.size ≤ 300 := by
  unfold fewS small at h
  rw [Bool.and_eq_true, List.all_eq_true] at h
  intro x hx
  have := h.2 x hx
  rw [decide_eq_true_eq] at this
  omega
section
variable {H : Type} {enc : TypeId × Value → H} {W : World}
theorem by_subs {base : Nat} {v : Value} {d : DataW H} {p : List MemPlace} (hv : Value.okWide Tryd.prog W .any base 38 v) (h : DataW.Trod enc Tryd.prog W 0 (fun _ => true) true 38 v d p) :
    ∃ (a : Option Addr) (l : List El) (c : Nat), v = .slice a l.length c ∧ SRow W a l ∧ l.length ≤ 9223372036854775807 := by
  obtain ⟨fuel, hf⟩ := h
  have hvc := okWide_slice Tryd.underlying38 hv
  obtain ⟨va, vn, vc, rfl⟩ := hvc
  obtain ⟨a, l, c, hcs, hr, hn⟩ := open_subs hf
  simp [Value.cells] at hcs
  obtain ⟨rfl, rfl, rfl⟩ := hcs
  exact ⟨va, l, vc, rfl, hr, hn⟩
end
end Go.Proofs.YteecialdkfaejaaDoor.Sm
