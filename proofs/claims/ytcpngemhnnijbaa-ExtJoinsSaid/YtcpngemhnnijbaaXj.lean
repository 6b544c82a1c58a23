/-
  A list of Subs appended to a list of a call's own. No condition but on the length: at most 100000 together.
-/
import Derived.Test.YtcpngemhnnijbaaXo
import Derived.Laws.OwnMore
import Derived.Deep.AppendLies
namespace Go.Proofs.Ytcpngemhnnijbaa.Xj
open Go.ChangeShapes Go.WideShapes Go.ChangeAt Go.RowKit
open Go.Proofs.Ytcpngemhnnijbaa.Ms
open Go.Proofs.Ytcpngemhnnijbaa.Sx
set_option linter.unusedVariables false
set_option maxRecDepth 100000

theorem rowS_len (l : List El) : (rowS l).length = l.length * 2 := by
  induction l with
  | nil => rfl
  | cons m l ih =>
    have : rowS (m :: l) = (cellsS m).toList ++ rowS l := by simp [rowS]
    rw [this, List.length_append, ih, List.length_cons]
    have : (cellsS m).toList.length = 2 := rfl
    omega
theorem row_cells {w : World} {p : Addr} {l : List El} (h : SRow w (some p) l) (j : Nat) (u : Value) (hu : (rowS l)[j]? = some u) : w.cell? (p.add j) = some u := by
  have hj : j < l.length * 2 := by
    have := (List.getElem?_eq_some_iff.1 hu).1
    rwa [rowS_len] at this
  have hi : j / 2 < l.length := by omega
  obtain ⟨q, hq, _, h1, h2⟩ := h (j / 2) hi
  cases hq
  have hat := rowS_at l (j / 2) (j % 2) hi (by omega)
  rw [show j / 2 * 2 + j % 2 = j by omega, hu] at hat
  rcases Nat.mod_two_eq_zero_or_one j with hm | hm
  · rw [hm] at hat
    rw [show j / 2 * 2 = j by omega] at h1
    rw [h1]
    exact hat.symm
  · rw [hm] at hat
    rw [Go.Deep.add_add, show j / 2 * 2 + 1 = j by omega] at h2
    rw [h2]
    exact hat.symm
theorem row_one (l : List El) : ∀ u ∈ rowS l, u.oneCell' = true := by
  intro u hu
  simp only [rowS, List.mem_flatMap] at hu
  obtain ⟨x, _, hx⟩ := hu
  have := oneS x
  rw [Array.all_eq_true_iff_forall_mem] at this
  exact this u (by simpa using hx)
theorem row_nil {w : World} {l : List El} (h : SRow w none l) : l = [] := by
  cases l with
  | nil => rfl
  | cons x l => obtain ⟨_, h1, _⟩ := h 0 (by simp); cases h1
theorem rowS_append (a b : List El) : rowS (a ++ b) = rowS a ++ rowS b := by simp [rowS]
theorem run_app (ty : TypeId) (B : Nat) (w : World) (v : Value) (l m : List El) (a : Option Addr) (c : Nat) (hown : Lst B w v l) (hm : SRow w a m) (hl : l.length + m.length ≤ 100000) (hB : B ≤ w.heap.size) :
    ∃ v' w', (Builtin.append_ #[22, 22] ty #[v, .slice a m.length c]).run Try.prog w = .ok v' w' ∧ Lst B w' v' (l ++ m) ∧ Below B w w' := by
  obtain ⟨i0, hi, hz, hsz, hby⟩ := infoS
  cases a with
  | none =>
    obtain rfl := row_nil hm
    refine ⟨v, w, ?_, by rw [List.append_nil]; exact hown, Below.refl _ _⟩
    rcases hown.2 with ⟨hv, h0⟩ | ⟨g, cap, cur, hv, _, _, hnc, _⟩
    · rw [hv]
      simp [Builtin.append_, run_underlying Try.underlying22, sizeOf, typeInfo, hi, Builtin.lenOf, Builtin.firstCells]
    · rw [hv]
      simp [Builtin.append_, run_underlying Try.underlying22, sizeOf, typeInfo, hi, Builtin.lenOf, Builtin.firstCells, hnc, storeCells]
  | some p =>
    have hbb : (l.length + m.length) * i0.bytes ≤ 100000 * 4096 := Nat.mul_le_mul hl hby
    obtain ⟨v', w', h1, h2, h3, _⟩ := run_append_own (P := Try.prog) w B 22 ty 38 i0 (.agg #[.int .i64 0, .string ByteArray.empty]) 2 i0.bytes Try.underlying22 hi hz hsz rfl rfl (by decide) v l.length (rowS l) hown p m.length c (rowS m) (rowS_len m) (row_cells hm) (row_one m) (by unfold maxLen; omega) (by omega) hB
    refine ⟨v', w', h1, ?_, (Below.refl B w).grown h3 hB (fun k hk => (World.ownsRow.lt hown k hk).1)⟩
    unfold Lst
    rw [rowS_append, List.length_append]
    exact h2
/-- append(v, m...) -/
theorem st_app {ops : Array Oper} {Q : Exit → Act → World → Prop} {A : Act} {w : World} {rest : List Oper} {o : Oper} (hw : Region.wanted o (yielded ops A.tmps) = true) (s x : Operand)
    (ho : o.op = .call { callee := .builtin .append, args := #[s, x], argTypes := #[22, 22] }) (B : Nat) (v : Value) (l m : List El) (a : Option Addr) (c : Nat)
    (hs : A.eval s = v) (hown : Lst B w v l) (hx : A.eval x = .slice a m.length c) (hm : SRow w a m) (hl : l.length + m.length ≤ 100000) (hB : B ≤ w.heap.size)
    (h : ∀ v' w', Lst B w' v' (l ++ m) → Below B w w' → wpList Try.prog ops Q rest (A.put o.dst v') w') : wpList Try.prog ops Q (o :: rest) A w := by
  obtain ⟨v', w', h1, h2, h3⟩ := run_app o.type B w v l m a c hown hm hl hB
  refine wpList_step fun K hK => ?_
  rw [if_pos hw]
  unfold Oper.wp execOp
  simp only [ho, resolve, invoke, builtin, Sem.run_bind, Sem.run_pure, Result.andThen_ok, List.map_toArray, List.map_cons, List.map_nil, hs, hx, h1]
  exact hK _ _ (h v' w' h2 h3)
theorem lst_lit (w : World) (B : Nat) (hB : B ≤ w.heap.size) : Lst B (w.alloc (.cells #[] 38)) (.slice (some ⟨w.heap.size, 0, none⟩) 0 0) [] :=
  World.ownsRow_lit (base := B) (e := 38) (size := 2) w #[] 0 hB (by decide) rfl
end Go.Proofs.Ytcpngemhnnijbaa.Xj
