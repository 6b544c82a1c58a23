/-
  The document's example of Subs. No conditions.
-/
import Derived.Test.YtgfjhemfhfdklaaS4
import Derived.Test.YtgfjhemfhfdklaaS6
namespace Go.Proofs.Ytgfjhemfhfdklaa.S7
open Go.ChangeShapes Go.WideShapes Go.ChangeAt Go.RowKit
open Go.Proofs.Ytgfjhemfhfdklaa.Ms
open Go.Proofs.Ytgfjhemfhfdklaa.S1
open Go.Proofs.Ytgfjhemfhfdklaa.S5
open Go.Proofs.Ytgfjhemfhfdklaa.F1 (okT)
set_option linter.unusedVariables false
set_option maxRecDepth 100000

theorem run_eqlSub (x y : El) (W : World) : (binOp .eql 40 (.agg #[.int .i64 x.2, .string x.1]) (.agg #[.int .i64 y.2, .string y.1])).run Try.prog W = .ok (.bool (elE x y)) W := by
  have hf : Try.prog.underlying 40 = some (.struct (Try.prog.fieldsOf 40)) := by kernel_rfl
  have hp : Try.prog.stoodInHeld 40 = false := by kernel_rfl
  have hq : (Op.equalIn 10000 40 (.agg #[.int .i64 x.2, .string x.1]) (.agg #[.int .i64 y.2, .string y.1])).run Try.prog W = .ok (elE x y) W := by
    rw [run_equalIn_struct W 9999 40 _ _ hf hp, elE_eq']
    simp only [Program.fieldsOf, Try.underlying40]
    refine eqF_int (by decide) Try.underlying3 rfl rfl ?_
    refine eqF_str (by decide) Try.underlying9 rfl rfl ?_
    rfl
  rw [run_eql_struct, hq]; rfl
theorem run_guardSubE (x y : El) (o p : Operand) (W : World) : (eqGuard .eql 40 o p (.agg #[.int .i64 x.2, .string x.1]) (.agg #[.int .i64 y.2, .string y.1])).run Try.prog W = .ok () W := run_eqGuard_agg W .eql _ o p _ _ (by kernel_rfl)
theorem elE_self (x : El) : elE x x = true := by unfold elE; simp
theorem add_nul (p : Addr) : p.add (0 * 2) = p := by
  unfold Addr.add
  split
  · rename_i h; cases p; simp_all
  · cases p; simp_all
theorem ex1 : outS ⟨#[0, 2, 1, 97, 1, 0]⟩ = ([(⟨#[97]⟩, 2)], true, 0) := outS_yes (l := [(⟨#[]⟩, 0), (⟨#[97]⟩, 2), (⟨#[]⟩, 1)]) (fun x hx => by
  simp only [List.mem_cons, List.not_mem_nil, or_false] at hx
  rcases hx with rfl | rfl | rfl
  · exact ⟨by decide, by decide, by decide, fun _ => rfl⟩
  · exact ⟨by decide, by decide, by decide, fun h => absurd h (by decide)⟩
  · exact ⟨by decide, by decide, by decide, fun h => absurd h (by decide)⟩) rfl (by decide)
theorem ex2 : outS ⟨#[128, 0]⟩ = ([], false, 0) := outS_yes (l := [(⟨#[]⟩, 128)]) (fun x hx => by
  rw [List.mem_singleton.1 hx]
  exact ⟨by decide, by decide, by decide, fun h => absurd h (by decide)⟩) rfl (by decide)
set_option maxHeartbeats 3200000 in
theorem awake_any (w : World) : Calls Try.prog 7 #[] w fun e w' => e = .returned (.bool true) ∧ Below w.heap.size w w' := by
  have P1 := Lib.hid (fun W => get_own ⟨#[0, 2, 1, 97, 1, 0]⟩ W (by decide))
  have P2 := Lib.hid (fun W => get_own ⟨#[128, 0]⟩ W (by decide))
  rw [ex1] at P1
  rw [ex2] at P2
  go_enter Try.func7, Try.ntmps7
  go_wp2_with fail
  refine (P1.out _).mono ?_
  rintro r w1 ⟨a1, k1, rfl, m1, hb⟩
  have HM := Lib.hid m1.row
  have HB := Lib.hid hb
  clear m1 hb P1
  dsimp only [List.length_cons, List.length_nil]
  go_wp2_with fail
  refine (P2.out _).mono ?_
  rintro r w2 ⟨a2, k2, rfl, m2, hb⟩
  have HM := Lib.hid (HM.out.below hb)
  have HB := Lib.hid (bcall HB.out hb)
  clear m2 hb P2
  dsimp only [List.length_nil]
  obtain ⟨p, rfl, hp, c0, c1⟩ := HM.out 0 (by simp)
  simp only [List.getElem_cons_zero] at c0 c1
  rw [add_one] at c1
  rw [add_nul] at c0 c1
  have eq1 := fun V => run_eqlSub (⟨#[97]⟩, 2) (⟨#[97]⟩, 2) V
  have eg1 := fun o q V => run_guardSubE (⟨#[97]⟩, 2) (⟨#[97]⟩, 2) o q V
  rw [elE_self] at eq1
  go_wp2
  go_ret
  exact ⟨rfl, HB.out⟩
end Go.Proofs.Ytgfjhemfhfdklaa.S7
