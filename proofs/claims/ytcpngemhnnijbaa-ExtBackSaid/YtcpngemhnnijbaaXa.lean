/-
  The document's example of extensions; whether Subs are few, and whether two lists of Subs are the same. Condition: lists of at most 2^20 elements.
-/
import Derived.Test.YtcpngemhnnijbaaXq
import Derived.Test.YtcpngemhnnijbaaRSame
import Derived.Test.YtcpngemhnnijbaaFew
namespace Go.Proofs.Ytcpngemhnnijbaa.Xa
open Go.ChangeShapes Go.WideShapes Go.ChangeAt Go.RowKit
open Go.Proofs.Ytcpngemhnnijbaa.Ms
open Go.Proofs.Ytcpngemhnnijbaa.Xv
open Go.Proofs.Ytcpngemhnnijbaa.Sx
open Go.Proofs.Ytcpngemhnnijbaa.Xc
open Go.Proofs.Ytcpngemhnnijbaa.Xp
open Go.Proofs.Ytcpngemhnnijbaa.Few
open Go.Proofs.Ytcpngemhnnijbaa.Bk (Bk Sh loadVarK wpList_builtK wpList_loadK wpList_storeK run_loadK below_setRow)
set_option linter.unusedVariables false
set_option maxRecDepth 100000

/-- A message that has Subs alone. -/
def mS (a : Option Addr) (l : List El) (c : Nat) : M := { M.zero with sa := a, sl := l, sc := c }
theorem built_mS (a : Option Addr) (n c : Nat) (l : List El) (h : l.length = n) : Try.prog.built 33 [(24, .slice a n c)] = some (mS a l c).cells := by
  subst h
  kernel_rfl
theorem same_mS (a a' : Option Addr) (l l' : List El) (c c' : Nat) : M.same (mS a l c) (mS a' l' c') = decide (l = l') := by
  have h1 : M.flatE (mS a l c) (mS a' l' c') = true := by
    unfold M.flatE mS M.zero
    simp
  have h2 : (mS a l c).ll = (mS a' l' c').ll := rfl
  unfold M.same
  rw [h1, decide_eq_true h2]
  rfl
theorem in_mS {a : Option Addr} {l : List El} {c : Nat} {w : World} (h : SRow w a l) (hn : l.length ≤ 1048576) : (mS a l c).In w := ⟨DRow.nil _ _, h, Nat.zero_le _, hn⟩
/-- Few Subs, of few bytes? -/
def fewS (l : List El) : Bool := decide (l.length ≤ 60) && small 300 l
theorem few_mS (a : Option Addr) (l : List El) (c : Nat) : fewB (mS a l c) = fewS l := by
  show (decide (0 ≤ 300) && decide (l.length ≤ 60) && decide (wrap64 (((0 : Nat) : Int) + ((0 : Nat) : Int)) ≤ 200) && decide (wrap64 (((0 : Nat) : Int) + ((0 : Nat) : Int)) ≤ 200) && decide (wrap64 (((0 : Nat) : Int) + ((0 : Nat) : Int)) ≤ 200) && decide (0 ≤ 300) && true && small 300 l) = _
  rw [show wrap64 (((0 : Nat) : Int) + ((0 : Nat) : Int)) = 0 from IntWalk.wrap64_in 0 (by omega)]
  unfold fewS
  generalize decide (l.length ≤ 60) = x
  generalize small 300 l = y
  cases x <;> cases y <;> rfl
theorem few_len {l : List El} (h : fewS l = true) : l.length ≤ 60 := by
  unfold fewS at h
  rw [Bool.and_eq_true, decide_eq_true_eq] at h
  exact h.1
theorem few_size {l : List El} (h : fewS l = true) : ∀ x ∈ l, x.1.size ≤ 1099511627776 := by
  unfold fewS small at h
  rw [Bool.and_eq_true, List.all_eq_true] at h
  intro x hx
  have := h.2 x hx
  rw [decide_eq_true_eq] at this
  omega
set_option maxHeartbeats 1600000 in
theorem few_any (a : Option Addr) (c : Nat) (l : List El) (w : World) (hl : SRow w a l) :
    Calls Try.prog 7 #[.slice a l.length c] w fun e w' => e = .returned (.bool (fewS l)) ∧ Below w.heap.size w w' := by
  have P := Lib.hid (Few.few_any (mS a l c) w (DRow.nil _ _) hl)
  rw [few_mS] at P
  have HB := Lib.hid (built_mS a l.length c l rfl)
  clear hl
  go_enter Try.func7, Try.ntmps7
  go_wp2_with (first | (refine wpList_builtK rfl 33 _ rfl (mS a l c).cells HB.out ?_))
  refine P.out.mono ?_
  rintro e w1 ⟨rfl, hb⟩
  go_wp2
  go_ret
  exact ⟨rfl, hb⟩

theorem add_nul (p : Addr) : p.add (0 * 2) = p := by
  unfold Addr.add
  split
  · rename_i h; cases p; simp_all
  · cases p; simp_all
theorem ex1 : outX ⟨#[1, 4, 97, 98, 99, 100, 2, 0]⟩ = ([(⟨#[97, 98, 99, 100]⟩, 1), (⟨#[]⟩, 2)], 0, 0) := out_yes rfl rfl
theorem ex2 : outX ⟨#[2, 0, 1, 4, 97, 98, 99]⟩ = ([], 2, 2) := out_no (l := [(⟨#[]⟩, 2)]) (r := [1, 4, 97, 98, 99]) rfl rfl rfl (by simp)
set_option maxHeartbeats 3200000 in
theorem awake_any (w : World) : Calls Try.prog 8 #[] w fun e w' => e = .returned (.bool true) ∧ Below w.heap.size w w' := by
  have P1 := Lib.hid (fun W => get_any ⟨#[1, 4, 97, 98, 99, 100, 2, 0]⟩ W (by decide))
  have P2 := Lib.hid (fun W => get_any ⟨#[2, 0, 1, 4, 97, 98, 99]⟩ W (by decide))
  rw [ex1] at P1
  rw [ex2] at P2
  go_enter Try.func8, Try.ntmps8
  go_wp2_with fail
  refine (P1.out _).mono ?_
  rintro r w1 ⟨a1, k1, rfl, m1, hb⟩
  have HM := Lib.hid m1
  have HB := Lib.hid hb
  clear m1 hb P1
  dsimp only [List.length_cons, List.length_nil]
  go_wp2_with fail
  refine (P2.out _).mono ?_
  rintro r w2 ⟨a2, k2, rfl, m2, hb⟩
  have HM := Lib.hid (HM.out.below hb)
  have HB := Lib.hid (bcall HB.out hb)
  clear m2 hb P2
  dsimp only [List.length_nil]
  obtain ⟨p, rfl, hp, c0, c1⟩ := HM.out 0 (by simp)
  simp only [List.getElem_cons_zero] at c0 c1
  rw [add_one] at c1
  rw [add_nul] at c0 c1
  go_wp2
  go_ret
  exact ⟨rfl, HB.out⟩
end Go.Proofs.Ytcpngemhnnijbaa.Xa
