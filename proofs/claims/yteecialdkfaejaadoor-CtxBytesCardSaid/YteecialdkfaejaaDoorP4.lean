/-
  A long condition 'x.f != y.f || x.g != y.g || ..' over two messages, walked over a frame that is a variable: no way is parted.
  Whether two messages are the same: the document's answer. Condition: lists of at most 2^20 elements.
-/
import Derived.Test.YteecialdkfaejaaDoorP3
namespace Go.Proofs.YteecialdkfaejaaDoor.Or
open Go.ChangeShapes Go.WideShapes Go.ChangeAt Go.RowKit
open Go.Proofs.YteecialdkfaejaaDoor.Ms
open Go.Proofs.YteecialdkfaejaaDoor.Box
set_option linter.unusedVariables false
set_option maxRecDepth 100000

section
variable {P : Program} {ops : Array Oper} {Q : Exit → Act → World → Prop} {A : Act} {w : World} {rest : List Oper} {o : Oper}

theorem st_yes {d : Nat} {v : Value} (hw : Region.wanted o (yielded ops A.tmps) = true) (hd : o.dst = some d) (hy : (execOp A.eval o).run P w = .ok (.value v) w)
    (h : wpList P ops Q rest (A.put (some d) v) w) : wpList P ops Q (o :: rest) A w :=
  wpList_step fun K hK => by
    rw [if_pos hw]
    unfold Oper.wp
    rw [hy]
    simp only [Oper.upon, hd]
    exact hK _ _ h
theorem st_no {d : Nat} (hw : Region.wanted o (yielded ops A.tmps) = false) (hd : o.dst = some d)
    (h : wpList P ops Q rest (A.put (some d) undef) w) : wpList P ops Q (o :: rest) A w :=
  wpList_step fun K hK => by
    rw [if_neg (by rw [hw]; simp), hd]
    exact hK _ _ h

theorem put_size (d : Nat) (v : Value) : (A.put (some d) v).tmps.size = A.tmps.size := by simp [Act.put]
theorem put_same {d : Nat} {v : Value} (h : d < A.tmps.size) : (A.put (some d) v).eval (.tmp d) = v := by simp [Act.eval, Act.put, h]
theorem put_other {d t : Nat} {v : Value} (h : d ≠ t) : (A.put (some d) v).eval (.tmp t) = A.eval (.tmp t) := by simp [Act.eval, Act.put, Array.getElem?_setIfInBounds_ne h]
theorem put_defers (d : Nat) (v : Value) : (A.put (some d) v).defers = A.defers := rfl

theorem yielded_eq {g : Nat} {d : Nat} {b : Bool} (hg : (ops[g]?).bind (·.dst) = some d) (hs : d < A.tmps.size) (hv : A.eval (.tmp d) = .bool b) : yielded ops A.tmps g = some b := by
  unfold yielded
  rw [hg]
  simp only [Act.eval, Array.getD_eq_getD_getElem?, Array.getElem?_eq_getElem hs, Option.getD_some] at hv
  simp [Array.getElem?_eq_getElem hs, hv]
theorem wanted_none (hg : o.guard = none) : Region.wanted o (yielded ops A.tmps) = true := by simp [Region.wanted, hg]
theorem wanted_some {g : Nat} {d : Nat} {b c : Bool} (ho : o.guard = some (g, c)) (hg : (ops[g]?).bind (·.dst) = some d) (hs : d < A.tmps.size) (hv : A.eval (.tmp d) = .bool b) : Region.wanted o (yielded ops A.tmps) = (b == c) := by
  simp [Region.wanted, ho, yielded_eq hg hs hv]
end

theorem ex_call {P : Program} {o : Oper} {ρ : Operand → Value} {f : Nat} {args : Array Operand} {ty : Array TypeId} {vs : Array Value} {w : World} (ho : o.op = .call ⟨.value (.func f), args, ty⟩) (hf : ρ (.func f) = .func (.func f) #[] #[]) (ha : args.map ρ = vs) (hcf : (callFunc f vs).run P w = .ok (.enter f vs) w) :
    (execOp ρ o).run P w = .ok (.enter f vs) w := by
  unfold execOp
  simp only [ho, resolve, hf, ha, go_sem]
  simpa [go_sem] using hcf
theorem st_call {P : Program} {ops : Array Oper} {Q : Exit → Act → World → Prop} {A : Act} {w : World} {rest : List Oper} {o : Oper} {d : Nat} {f : Nat} {args : Array Operand} {ty : Array TypeId} {vs : Array Value} {v : Value} {S : World → Prop}
    (hw : Region.wanted o (yielded ops A.tmps) = true) (hd : o.dst = some d) (ho : o.op = .call ⟨.value (.func f), args, ty⟩) (ha : args.map A.eval = vs) (hcf : (callFunc f vs).run P w = .ok (.enter f vs) w)
    (hc : Calls P f vs w fun e w' => e = .returned v ∧ S w') (h : ∀ w', S w' → wpList P ops Q rest (A.put (some d) v) w') : wpList P ops Q (o :: rest) A w :=
  wpList_step fun K hK => by
    rw [if_pos hw]
    unfold Oper.wp
    rw [ex_call ho rfl ha hcf, Oper.upon_enter]
    refine hc.mono ?_
    rintro e w' ⟨rfl, hS⟩
    rw [hd]
    exact hK _ _ (h w' hS)

theorem run_fieldM (b j : Nat) (hj : j < 25) (w : World) : (Instr.fieldAt 40 (.pointer (some ⟨b, 0, none⟩)) j).run Tryd.prog w = .ok (.pointer (some ⟨b, j, none⟩)) w := by
  rcases (show j = 0 ∨ j = 1 ∨ j = 2 ∨ j = 3 ∨ j = 4 ∨ j = 5 ∨ j = 6 ∨ j = 7 ∨ j = 8 ∨ j = 9 ∨ j = 10 ∨ j = 11 ∨ j = 12 ∨ j = 13 ∨ j = 14 ∨ j = 15 ∨ j = 16 ∨ j = 17 ∨ j = 18 ∨ j = 19 ∨ j = 20 ∨ j = 21 ∨ j = 22 ∨ j = 23 ∨ j = 24 by omega) with rfl | rfl | rfl | rfl | rfl | rfl | rfl | rfl | rfl | rfl | rfl | rfl | rfl | rfl | rfl | rfl | rfl | rfl | rfl | rfl | rfl | rfl | rfl | rfl | rfl <;> go_simp
theorem ex_field {o : Oper} {ρ : Operand → Value} {x : Operand} {b j : Nat} {w : World} (ho : o.op = .fieldAddr 40 x j) (hj : j < 25) (hx : ρ x = .pointer (some ⟨b, 0, none⟩)) :
    (execOp ρ o).run Tryd.prog w = .ok (.value (.pointer (some ⟨b, j, none⟩))) w := by
  unfold execOp
  simp only [ho, hx, Sem.run_bind, run_fieldM b j hj, Result.andThen_ok, Sem.run_pure]
theorem ex_load {o : Oper} {ρ : Operand → Value} {x : Operand} {T : TypeId} {p : Addr} {v : Value} {w : World} (ho : o.op = .load T x) (hT : (isAgg T).run Tryd.prog w = .ok false w) (hx : ρ x = .pointer (some p)) (hc : w.cell? p = some v) :
    (execOp ρ o).run Tryd.prog w = .ok (.value v) w := by
  unfold execOp
  simp only [ho, hx, Instr.loadAt, Instr.sureAddr, loadVar, hT, Sem.run_bind, Result.andThen_ok, Sem.run_pure, Bool.false_eq_true, if_false, run_load, hc]
theorem ex_neq {o : Oper} {ρ : Operand → Value} {x y : Operand} {T T' : TypeId} {u v : Value} {r : Bool} {w : World} (ho : o.op = .binOp .neq T x y T') (hx : ρ x = u) (hy : ρ y = v)
    (h1 : (eqGuard .neq T x y u v).run Tryd.prog w = .ok () w) (h2 : (binOp .neq T u v).run Tryd.prog w = .ok (.bool r) w) : (execOp ρ o).run Tryd.prog w = .ok (.value (.bool r)) w := by
  unfold execOp
  simp only [ho, hx, hy, Sem.run_bind, h1, h2, Result.andThen_ok, Sem.run_pure]
theorem ex_pick {o : Oper} {ρ : Operand → Value} {c x y : Operand} {r : Bool} {w : World} (ho : o.op = .pick c x y) (hc : ρ c = .bool r) :
    (execOp ρ o).run Tryd.prog w = .ok (.value (if r then ρ x else ρ y)) w := by
  unfold execOp
  simp only [ho, hc, asBool, Sem.run_bind, Result.andThen_ok, Sem.run_pure]

theorem agg_int (w : World) : (isAgg 3).run Tryd.prog w = .ok false w := by go_simp
theorem agg_str (w : World) : (isAgg 9).run Tryd.prog w = .ok false w := by go_simp

/-- The frame: its size, the two variables' addresses. -/
structure Fr (A : Act) (N n : Nat) : Prop where
  size : A.tmps.size = N
  defers : A.defers = []
  x : A.eval (.tmp 2) = .pointer (some ⟨n, 0, none⟩)
  y : A.eval (.tmp 3) = .pointer (some ⟨n + 1, 0, none⟩)
theorem Fr.put {A : Act} {N n : Nat} (h : Fr A N n) {d : Nat} {v : Value} (hd : 3 < d) : Fr (A.put (some d) v) N n :=
  ⟨(put_size d v).trans h.size, h.defers, (put_other (by omega)).trans h.x, (put_other (by omega)).trans h.y⟩

section
variable {ops : Array Oper} {Q : Exit → Act → World → Prop} {A : Act} {w : World} {rest : List Oper}

theorem first_group {N p n j : Nat} {r : Bool} {T : TypeId} {u v : Value} {o1 o2 o3 o4 o5 : Oper} (F : Fr A N n) (h4 : 3 < p) (hN : p + 4 < N)
    (e1 : o1.dst = some p ∧ o1.op = .fieldAddr 40 (.tmp 2) j ∧ o1.guard = none) (e2 : o2.dst = some (p + 1) ∧ o2.op = .load T (.tmp p) ∧ o2.guard = none)
    (e3 : o3.dst = some (p + 2) ∧ o3.op = .fieldAddr 40 (.tmp 3) j ∧ o3.guard = none) (e4 : o4.dst = some (p + 3) ∧ o4.op = .load T (.tmp (p + 2)) ∧ o4.guard = none)
    (e5 : o5.dst = some (p + 4) ∧ o5.op = .binOp .neq T (.tmp (p + 1)) (.tmp (p + 3)) T ∧ o5.guard = none)
    (hj : j < 25) (hT : (isAgg T).run Tryd.prog w = .ok false w) (cu : w.cell? ⟨n, j, none⟩ = some u) (cv : w.cell? ⟨n + 1, j, none⟩ = some v)
    (h1 : ∀ x y, (eqGuard .neq T x y u v).run Tryd.prog w = .ok () w) (h2 : (binOp .neq T u v).run Tryd.prog w = .ok (.bool r) w)
    (h : ∀ A', Fr A' N n → A'.eval (.tmp (p + 4)) = .bool r → wpList Tryd.prog ops Q rest A' w) : wpList Tryd.prog ops Q (o1 :: o2 :: o3 :: o4 :: o5 :: rest) A w := by
  have hs := F.size
  refine st_yes (wanted_none e1.2.2) e1.1 (ex_field e1.2.1 hj F.x) ?_
  refine st_yes (wanted_none e2.2.2) e2.1 (ex_load e2.2.1 hT (put_same (by omega)) cu) ?_
  refine st_yes (wanted_none e3.2.2) e3.1 (ex_field e3.2.1 hj ((F.put (d := p) h4).put (d := p + 1) (by omega)).y) ?_
  refine st_yes (wanted_none e4.2.2) e4.1 (ex_load e4.2.1 hT (put_same (by simp only [put_size]; omega)) cv) ?_
  refine st_yes (wanted_none e5.2.2) e5.1 (ex_neq e5.2.1 ?_ (put_same (by simp only [put_size]; omega)) (h1 _ _) h2) ?_
  · exact (put_other (by omega)).trans ((put_other (by omega)).trans (put_same (by simp only [put_size]; omega)))
  · exact h _ (((((F.put (d := p) h4).put (d := p + 1) (by omega)).put (d := p + 2) (by omega)).put (d := p + 3) (by omega)).put (d := p + 4) (by omega)) (put_same (by simp only [put_size]; omega))

set_option maxHeartbeats 1600000 in
theorem or_group {N p n j g : Nat} {r r2 : Bool} {T : TypeId} {u v : Value} {o1 o2 o3 o4 o5 o6 o7 : Oper} (F : Fr A N n) (hp : A.eval (.tmp p) = .bool r) (h4 : 3 < p) (hN : p + 7 < N)
    (e1 : o1.dst = some (p + 1) ∧ o1.op = .move (.tmp p) ∧ o1.guard = none)
    (e2 : o2.dst = some (p + 2) ∧ o2.op = .fieldAddr 40 (.tmp 2) j ∧ o2.guard = some (g, false)) (e3 : o3.dst = some (p + 3) ∧ o3.op = .load T (.tmp (p + 2)) ∧ o3.guard = some (g, false))
    (e4 : o4.dst = some (p + 4) ∧ o4.op = .fieldAddr 40 (.tmp 3) j ∧ o4.guard = some (g, false)) (e5 : o5.dst = some (p + 5) ∧ o5.op = .load T (.tmp (p + 4)) ∧ o5.guard = some (g, false))
    (e6 : o6.dst = some (p + 6) ∧ o6.op = .binOp .neq T (.tmp (p + 3)) (.tmp (p + 5)) T ∧ o6.guard = some (g, false))
    (e7 : o7.dst = some (p + 7) ∧ o7.op = .pick (.tmp (p + 1)) (.const (.bool true)) (.tmp (p + 6)) ∧ o7.guard = none)
    (hg : (ops[g]?).bind (·.dst) = some (p + 1))
    (hj : j < 25) (hT : (isAgg T).run Tryd.prog w = .ok false w) (cu : w.cell? ⟨n, j, none⟩ = some u) (cv : w.cell? ⟨n + 1, j, none⟩ = some v)
    (h1 : ∀ x y, (eqGuard .neq T x y u v).run Tryd.prog w = .ok () w) (h2 : (binOp .neq T u v).run Tryd.prog w = .ok (.bool r2) w)
    (h : ∀ A', Fr A' N n → A'.eval (.tmp (p + 7)) = .bool (r || r2) → wpList Tryd.prog ops Q rest A' w) : wpList Tryd.prog ops Q (o1 :: o2 :: o3 :: o4 :: o5 :: o6 :: o7 :: rest) A w := by
  have hs := F.size
  have F1 := F.put (d := p + 1) (v := .bool r) (by omega)
  refine st_yes (v := .bool r) (wanted_none e1.2.2) e1.1 (by rw [BigFrame.run_move _ e1.2.1, hp]) ?_
  have hv : (A.put (some (p + 1)) (.bool r)).eval (.tmp (p + 1)) = .bool r := put_same (by omega)
  generalize A.put (some (p + 1)) (.bool r) = B at *
  have hb := F1.size
  cases r
  · refine st_yes (by rw [wanted_some e2.2.2 hg (by omega) hv]; rfl) e2.1 (ex_field e2.2.1 hj F1.x) ?_
    have k1 : ∀ x, (B.put (some (p + 2)) x).eval (.tmp (p + 1)) = .bool false := fun x => (put_other (by omega)).trans hv
    refine st_yes (by rw [wanted_some e3.2.2 hg (by simp only [put_size]; omega) (k1 _)]; rfl) e3.1 (ex_load e3.2.1 hT (put_same (by omega)) cu) ?_
    have k2 : ∀ x y, ((B.put (some (p + 2)) x).put (some (p + 3)) y).eval (.tmp (p + 1)) = .bool false := fun x y => (put_other (by omega)).trans (k1 x)
    refine st_yes (by rw [wanted_some e4.2.2 hg (by simp only [put_size]; omega) (k2 _ _)]; rfl) e4.1 (ex_field e4.2.1 hj ((F1.put (d := p + 2) (by omega)).put (d := p + 3) (by omega)).y) ?_
    have k3 : ∀ x y z, (((B.put (some (p + 2)) x).put (some (p + 3)) y).put (some (p + 4)) z).eval (.tmp (p + 1)) = .bool false := fun x y z => (put_other (by omega)).trans (k2 x y)
    refine st_yes (by rw [wanted_some e5.2.2 hg (by simp only [put_size]; omega) (k3 _ _ _)]; rfl) e5.1 (ex_load e5.2.1 hT (put_same (by simp only [put_size]; omega)) cv) ?_
    have k4 : ∀ x y z t, ((((B.put (some (p + 2)) x).put (some (p + 3)) y).put (some (p + 4)) z).put (some (p + 5)) t).eval (.tmp (p + 1)) = .bool false := fun x y z t => (put_other (by omega)).trans (k3 x y z)
    refine st_yes (by rw [wanted_some e6.2.2 hg (by simp only [put_size]; omega) (k4 _ _ _ _)]; rfl) e6.1 (ex_neq e6.2.1 ?_ (put_same (by simp only [put_size]; omega)) (h1 _ _) h2) ?_
    · exact (put_other (by omega)).trans ((put_other (by omega)).trans (put_same (by simp only [put_size]; omega)))
    · refine st_yes (v := .bool r2) (wanted_none e7.2.2) e7.1 ?_ ?_
      · refine (ex_pick e7.2.1 (r := false) ((put_other (by omega)).trans (k4 _ _ _ _))).trans ?_
        rw [if_neg (by decide)]
        exact congrArg (fun v => Result.ok (Next.value v) w) (put_same (by simp only [put_size]; omega))
      · exact h _ ((((((F1.put (d := p + 2) (by omega)).put (d := p + 3) (by omega)).put (d := p + 4) (by omega)).put (d := p + 5) (by omega)).put (d := p + 6) (by omega)).put (d := p + 7) (by omega)) ((put_same (by simp only [put_size]; omega)).trans (by simp))
  · refine st_no (by rw [wanted_some e2.2.2 hg (by omega) hv]; rfl) e2.1 ?_
    have k1 : ∀ x, (B.put (some (p + 2)) x).eval (.tmp (p + 1)) = .bool true := fun x => (put_other (by omega)).trans hv
    refine st_no (by rw [wanted_some e3.2.2 hg (by simp only [put_size]; omega) (k1 _)]; rfl) e3.1 ?_
    have k2 : ∀ x y, ((B.put (some (p + 2)) x).put (some (p + 3)) y).eval (.tmp (p + 1)) = .bool true := fun x y => (put_other (by omega)).trans (k1 x)
    refine st_no (by rw [wanted_some e4.2.2 hg (by simp only [put_size]; omega) (k2 _ _)]; rfl) e4.1 ?_
    have k3 : ∀ x y z, (((B.put (some (p + 2)) x).put (some (p + 3)) y).put (some (p + 4)) z).eval (.tmp (p + 1)) = .bool true := fun x y z => (put_other (by omega)).trans (k2 x y)
    refine st_no (by rw [wanted_some e5.2.2 hg (by simp only [put_size]; omega) (k3 _ _ _)]; rfl) e5.1 ?_
    have k4 : ∀ x y z t, ((((B.put (some (p + 2)) x).put (some (p + 3)) y).put (some (p + 4)) z).put (some (p + 5)) t).eval (.tmp (p + 1)) = .bool true := fun x y z t => (put_other (by omega)).trans (k3 x y z)
    refine st_no (by rw [wanted_some e6.2.2 hg (by simp only [put_size]; omega) (k4 _ _ _ _)]; rfl) e6.1 ?_
    refine st_yes (v := .bool true) (wanted_none e7.2.2) e7.1 ?_ ?_
    · refine (ex_pick e7.2.1 (r := true) ((put_other (by omega)).trans (k4 _ _ _ _))).trans ?_
      rw [if_pos rfl]; rfl
    · exact h _ ((((((F1.put (d := p + 2) (by omega)).put (d := p + 3) (by omega)).put (d := p + 4) (by omega)).put (d := p + 5) (by omega)).put (d := p + 6) (by omega)).put (d := p + 7) (by omega)) ((put_same (by simp only [put_size]; omega)).trans (by simp))
end
end Go.Proofs.YteecialdkfaejaaDoor.Or
namespace Go.Proofs.YteecialdkfaejaaDoor.RSame
open Go.ChangeShapes Go.WideShapes Go.ChangeAt Go.RowKit
open Go.Proofs.YteecialdkfaejaaDoor.Ms
open Go.Proofs.YteecialdkfaejaaDoor.Box
open Go.Proofs.YteecialdkfaejaaDoor.Eq
open Go.Proofs.YteecialdkfaejaaDoor.Same
open Go.Proofs.YteecialdkfaejaaDoor.SameP
open Go.Proofs.YteecialdkfaejaaDoor.Hs
open Go.Proofs.YteecialdkfaejaaDoor.Or
set_option linter.unusedVariables false
set_option maxRecDepth 100000

theorem ni (a b : Int) (w : World) : (∀ x y, (eqGuard .neq 3 x y (.int .i64 a) (.int .i64 b)).run Tryd.prog w = .ok () w) ∧ (binOp .neq 3 (.int .i64 a) (.int .i64 b)).run Tryd.prog w = .ok (.bool (a != b)) w :=
  ⟨fun x y => by rw [eqGuard_at_int]; rfl, by rw [binOp_neq]; rfl⟩
theorem ns (a b : ByteArray) (w : World) : (∀ x y, (eqGuard .neq 9 x y (.string a) (.string b)).run Tryd.prog w = .ok () w) ∧ (binOp .neq 9 (.string a) (.string b)).run Tryd.prog w = .ok (.bool (!(a.toList == b.toList))) w :=
  ⟨fun x y => by rw [eqGuard_at_string]; rfl, by rw [binOp_string_neq]; rfl⟩
theorem agg_sl (w : World) : (isAgg 37).run Tryd.prog w = .ok false w ∧ (isAgg 38).run Tryd.prog w = .ok false w := by constructor <;> go_simp
theorem with_frame {c : Code} {Q : Exit → Act → World → Prop} {A : Act} {w : World} {n : Nat} (h : ∀ B, Fr B 174 n → c.wp Tryd.prog Q B w) (F : Fr A 174 n) : c.wp Tryd.prog Q A w := h A F
theorem ret_slot4 {A : Act} {n : Nat} {w w0 : World} {v r : Bool} {fn : Func} (hfn : fn.results = #[.tmp 4]) (F : Fr A 174 n) (hv : A.eval (.tmp 4) = .bool v) (hr : v = r) (hb : Below w0.heap.size w0 w) :
    bodyPost Tryd.prog fn (fun e w' => e = .returned (.bool r) ∧ Below w0.heap.size w0 w') .ret A w :=
  bodyPost_ret (v := .bool v) ((results_tmp hfn _ _ _).trans (congrArg (fun v => Result.ok v w) hv)) F.defers ⟨bool_eq hr, hb⟩

theorem load_two {ops : Array Oper} {Q : Exit → Act → World → Prop} {A : Act} {w : World} {rest : List Oper} {N q n j : Nat} {T : TypeId} {u v : Value} {o1 o2 o3 o4 : Oper} {gd : Option (Nat × Bool)} (F : Fr A N n) (h4 : 3 < q) (hN : q + 3 < N)
    (e1 : o1.dst = some q ∧ o1.op = .fieldAddr 40 (.tmp 2) j ∧ o1.guard = gd) (e2 : o2.dst = some (q + 1) ∧ o2.op = .load T (.tmp q) ∧ o2.guard = gd)
    (e3 : o3.dst = some (q + 2) ∧ o3.op = .fieldAddr 40 (.tmp 3) j ∧ o3.guard = gd) (e4 : o4.dst = some (q + 3) ∧ o4.op = .load T (.tmp (q + 2)) ∧ o4.guard = gd)
    (hw : ∀ B : Act, B.tmps.size = N → (∀ t : Nat, t < q → B.eval (.tmp t) = A.eval (.tmp t)) → ∀ o : Oper, o.guard = gd → Region.wanted o (yielded ops B.tmps) = true)
    (hj : j < 25) (hT : (isAgg T).run Tryd.prog w = .ok false w) (cu : w.cell? ⟨n, j, none⟩ = some u) (cv : w.cell? ⟨n + 1, j, none⟩ = some v)
    (h : ∀ A', Fr A' N n → A'.eval (.tmp (q + 1)) = u → A'.eval (.tmp (q + 3)) = v → (∀ t : Nat, t < q → A'.eval (.tmp t) = A.eval (.tmp t)) → wpList Tryd.prog ops Q rest A' w) : wpList Tryd.prog ops Q (o1 :: o2 :: o3 :: o4 :: rest) A w := by
  have hs := F.size
  have F1 : ∀ x, Fr (A.put (some q) x) N n := fun x => F.put h4
  have F2 : ∀ x y, Fr ((A.put (some q) x).put (some (q + 1)) y) N n := fun x y => (F1 x).put (by omega)
  have F3 : ∀ x y z, Fr (((A.put (some q) x).put (some (q + 1)) y).put (some (q + 2)) z) N n := fun x y z => (F2 x y).put (by omega)
  have F4 : ∀ x y z t, Fr ((((A.put (some q) x).put (some (q + 1)) y).put (some (q + 2)) z).put (some (q + 3)) t) N n := fun x y z t => (F3 x y z).put (by omega)
  have k1 : ∀ x, ∀ t : Nat, t < q → (A.put (some q) x).eval (.tmp t) = A.eval (.tmp t) := fun x t ht => put_other (by omega)
  have k2 : ∀ x y, ∀ t : Nat, t < q → ((A.put (some q) x).put (some (q + 1)) y).eval (.tmp t) = A.eval (.tmp t) := fun x y t ht => (put_other (by omega)).trans (k1 x t ht)
  have k3 : ∀ x y z, ∀ t : Nat, t < q → (((A.put (some q) x).put (some (q + 1)) y).put (some (q + 2)) z).eval (.tmp t) = A.eval (.tmp t) := fun x y z t ht => (put_other (by omega)).trans (k2 x y t ht)
  have k4 : ∀ x y z r, ∀ t : Nat, t < q → ((((A.put (some q) x).put (some (q + 1)) y).put (some (q + 2)) z).put (some (q + 3)) r).eval (.tmp t) = A.eval (.tmp t) := fun x y z r t ht => (put_other (by omega)).trans (k3 x y z t ht)
  refine st_yes (hw _ hs (fun _ _ => rfl) _ e1.2.2) e1.1 (ex_field e1.2.1 hj F.x) ?_
  refine st_yes (hw _ (F1 _).size (k1 _) _ e2.2.2) e2.1 (ex_load e2.2.1 hT (put_same (by omega)) cu) ?_
  refine st_yes (hw _ (F2 _ _).size (k2 _ _) _ e3.2.2) e3.1 (ex_field e3.2.1 hj (F2 _ _).y) ?_
  refine st_yes (hw _ (F3 _ _ _).size (k3 _ _ _) _ e4.2.2) e4.1 (ex_load e4.2.1 hT (put_same (by simp only [put_size]; omega)) cv) ?_
  exact h _ (F4 _ _ _ _) ((put_other (by omega)).trans ((put_other (by omega)).trans (put_same (by simp only [put_size]; omega)))) (put_same (by simp only [put_size]; omega)) (k4 _ _ _ _)

set_option maxHeartbeats 6400000 in
set_option maxRecDepth 100000 in
theorem rsame_any (a b : M) (w : World) (ha : a.In w) (hb : b.In w) :
    Calls Tryd.prog 18 #[.agg a.cells, .agg b.cells] w fun e w' => e = .returned (.bool (M.same a b)) ∧ Below w.heap.size w w' := by
  have PD := Lib.hid (fun W (h : S2 w a b W) => heldP (S2 w a b) S2.keep (rdests_any a.la b.la a.lc b.lc a.ll b.ll W h.2.2.1.d h.2.2.2.1.d h.2.2.1.dl h.2.2.2.1.dl) h)
  have PS := Lib.hid (fun W (h : S2 w a b W) => heldP (S2 w a b) S2.keep (rsubs_any a.sa b.sa a.sc b.sc a.sl b.sl W h.2.2.1.s h.2.2.2.1.s h.2.2.1.sl h.2.2.2.1.sl) h)
  have H1 : Hid (M.same a b = (!(((((((((((a.kind != b.kind) || (a.cmd != b.cmd)) || (a.ver != b.ver)) || (!(a.auth.toList == b.auth.toList))) || (a.family != b.family)) || (a.ae != b.ae)) || (!(a.pfx.toList == b.pfx.toList))) || (a.plen != b.plen)) || (a.tag != b.tag)) || (!(a.next.toList == b.next.toList))) || (a.metric != b.metric)) && (!((((((((((((!(a.id.toList == b.id.toList)) || (a.seq != b.seq)) || (a.seq2 != b.seq2)) || (a.interval != b.interval)) || (a.flags != b.flags)) || (a.hops != b.hops)) || (a.nonce != b.nonce)) || (a.cost != b.cost)) || (!(a.addr.toList == b.addr.toList))) || (!(a.orig.toList == b.orig.toList))) || (a.typ != b.typ)) || (!(a.data.toList == b.data.toList))) && (decide (a.ll = b.ll) && decide (a.sl = b.sl))))) := Lib.hid (by simp [M.same, M.flatE, Bool.and_assoc, bne, Bool.not_or])
  obtain ⟨ba, bb, bel⟩ := SameP.start w a b
  have h0 : S2 w a b ((w.alloc (.cells a.cells 40)).alloc (.cells b.cells 40)) := ⟨ba, bb, ha.below (balloc (balloc (Below.refl _ _) _) _), hb.below (balloc (balloc (Below.refl _ _) _) _), bel⟩
  clear ba bb bel ha hb
  go_enter Tryd.func18, Tryd.ntmps18
  go_upto_region 1 with fail
  rename_i Q1 K1 hK1 K2 hK2
  generalize (w.alloc (.cells a.cells 40)).alloc (.cells b.cells 40) = V at *
  have C := h0.1.cs
  have D := h0.2.1.cs
  refine with_frame (n := w.heap.size) (fun A F => ?_) ⟨rfl, rfl, rfl, rfl⟩
  refine wp_region_lit ?_
  refine first_group (p := 5) (N := 174) F (by decide) (by decide) ⟨rfl, rfl, rfl⟩ ⟨rfl, rfl, rfl⟩ ⟨rfl, rfl, rfl⟩ ⟨rfl, rfl, rfl⟩ ⟨rfl, rfl, rfl⟩ (by decide) (agg_int _) C.c0 D.c0 (ni a.kind b.kind _).1 (ni a.kind b.kind _).2 (fun A F hp => ?_)
  refine or_group (p := 9) (g := 5) (N := 174) F hp (by decide) (by decide) ⟨rfl, rfl, rfl⟩ ⟨rfl, rfl, rfl⟩ ⟨rfl, rfl, rfl⟩ ⟨rfl, rfl, rfl⟩ ⟨rfl, rfl, rfl⟩ ⟨rfl, rfl, rfl⟩ ⟨rfl, rfl, rfl⟩ rfl (by decide) (agg_int _) C.c1 D.c1 (ni a.cmd b.cmd _).1 (ni a.cmd b.cmd _).2 (fun A F hp => ?_)
  refine or_group (p := 16) (g := 12) (N := 174) F hp (by decide) (by decide) ⟨rfl, rfl, rfl⟩ ⟨rfl, rfl, rfl⟩ ⟨rfl, rfl, rfl⟩ ⟨rfl, rfl, rfl⟩ ⟨rfl, rfl, rfl⟩ ⟨rfl, rfl, rfl⟩ ⟨rfl, rfl, rfl⟩ rfl (by decide) (agg_int _) C.c2 D.c2 (ni a.ver b.ver _).1 (ni a.ver b.ver _).2 (fun A F hp => ?_)
  refine or_group (p := 23) (g := 19) (N := 174) F hp (by decide) (by decide) ⟨rfl, rfl, rfl⟩ ⟨rfl, rfl, rfl⟩ ⟨rfl, rfl, rfl⟩ ⟨rfl, rfl, rfl⟩ ⟨rfl, rfl, rfl⟩ ⟨rfl, rfl, rfl⟩ ⟨rfl, rfl, rfl⟩ rfl (by decide) (agg_str _) C.c3 D.c3 (ns a.auth b.auth _).1 (ns a.auth b.auth _).2 (fun A F hp => ?_)
  refine or_group (p := 30) (g := 26) (N := 174) F hp (by decide) (by decide) ⟨rfl, rfl, rfl⟩ ⟨rfl, rfl, rfl⟩ ⟨rfl, rfl, rfl⟩ ⟨rfl, rfl, rfl⟩ ⟨rfl, rfl, rfl⟩ ⟨rfl, rfl, rfl⟩ ⟨rfl, rfl, rfl⟩ rfl (by decide) (agg_int _) C.c4 D.c4 (ni a.family b.family _).1 (ni a.family b.family _).2 (fun A F hp => ?_)
  refine or_group (p := 37) (g := 33) (N := 174) F hp (by decide) (by decide) ⟨rfl, rfl, rfl⟩ ⟨rfl, rfl, rfl⟩ ⟨rfl, rfl, rfl⟩ ⟨rfl, rfl, rfl⟩ ⟨rfl, rfl, rfl⟩ ⟨rfl, rfl, rfl⟩ ⟨rfl, rfl, rfl⟩ rfl (by decide) (agg_int _) C.c5 D.c5 (ni a.ae b.ae _).1 (ni a.ae b.ae _).2 (fun A F hp => ?_)
  refine or_group (p := 44) (g := 40) (N := 174) F hp (by decide) (by decide) ⟨rfl, rfl, rfl⟩ ⟨rfl, rfl, rfl⟩ ⟨rfl, rfl, rfl⟩ ⟨rfl, rfl, rfl⟩ ⟨rfl, rfl, rfl⟩ ⟨rfl, rfl, rfl⟩ ⟨rfl, rfl, rfl⟩ rfl (by decide) (agg_str _) C.c6 D.c6 (ns a.pfx b.pfx _).1 (ns a.pfx b.pfx _).2 (fun A F hp => ?_)
  refine or_group (p := 51) (g := 47) (N := 174) F hp (by decide) (by decide) ⟨rfl, rfl, rfl⟩ ⟨rfl, rfl, rfl⟩ ⟨rfl, rfl, rfl⟩ ⟨rfl, rfl, rfl⟩ ⟨rfl, rfl, rfl⟩ ⟨rfl, rfl, rfl⟩ ⟨rfl, rfl, rfl⟩ rfl (by decide) (agg_int _) C.c7 D.c7 (ni a.plen b.plen _).1 (ni a.plen b.plen _).2 (fun A F hp => ?_)
  refine or_group (p := 58) (g := 54) (N := 174) F hp (by decide) (by decide) ⟨rfl, rfl, rfl⟩ ⟨rfl, rfl, rfl⟩ ⟨rfl, rfl, rfl⟩ ⟨rfl, rfl, rfl⟩ ⟨rfl, rfl, rfl⟩ ⟨rfl, rfl, rfl⟩ ⟨rfl, rfl, rfl⟩ rfl (by decide) (agg_int _) C.c8 D.c8 (ni a.tag b.tag _).1 (ni a.tag b.tag _).2 (fun A F hp => ?_)
  refine or_group (p := 65) (g := 61) (N := 174) F hp (by decide) (by decide) ⟨rfl, rfl, rfl⟩ ⟨rfl, rfl, rfl⟩ ⟨rfl, rfl, rfl⟩ ⟨rfl, rfl, rfl⟩ ⟨rfl, rfl, rfl⟩ ⟨rfl, rfl, rfl⟩ ⟨rfl, rfl, rfl⟩ rfl (by decide) (agg_str _) C.c9 D.c9 (ns a.next b.next _).1 (ns a.next b.next _).2 (fun A F hp => ?_)
  refine or_group (p := 72) (g := 68) (N := 174) F hp (by decide) (by decide) ⟨rfl, rfl, rfl⟩ ⟨rfl, rfl, rfl⟩ ⟨rfl, rfl, rfl⟩ ⟨rfl, rfl, rfl⟩ ⟨rfl, rfl, rfl⟩ ⟨rfl, rfl, rfl⟩ ⟨rfl, rfl, rfl⟩ rfl (by decide) (agg_int _) C.c10 D.c10 (ni a.metric b.metric _).1 (ni a.metric b.metric _).2 (fun A F hp => ?_)
  refine wpList_nil ?_
  refine hK2 _ _ ?_
  refine wp_cond_split hp (fun ht => ?_) (fun hf => ?_)
  · refine wp_seq (wp_region_lit (l := [_]) ?_)
    refine st_yes (v := .bool false) (wanted_none rfl) rfl rfl (wpList_nil ?_)
    refine wp_ret ?_
    exact ret_slot4 (v := false) rfl (F.put (d := 4) (by decide)) (put_same (by rw [F.size]; decide)) (by rw [H1.out, ht]; simp) h0.2.2.2.2
  refine wp_skip ?_
  refine hK1 _ _ ?_
  clear hK1 hK2 hp
  refine wp_seq (wp_seq (wp_region_lit ?_))
  refine first_group (p := 80) (N := 174) F (by decide) (by decide) ⟨rfl, rfl, rfl⟩ ⟨rfl, rfl, rfl⟩ ⟨rfl, rfl, rfl⟩ ⟨rfl, rfl, rfl⟩ ⟨rfl, rfl, rfl⟩ (by decide) (agg_str _) C.c11 D.c11 (ns a.id b.id _).1 (ns a.id b.id _).2 (fun A F hp => ?_)
  refine or_group (p := 84) (g := 5) (N := 174) F hp (by decide) (by decide) ⟨rfl, rfl, rfl⟩ ⟨rfl, rfl, rfl⟩ ⟨rfl, rfl, rfl⟩ ⟨rfl, rfl, rfl⟩ ⟨rfl, rfl, rfl⟩ ⟨rfl, rfl, rfl⟩ ⟨rfl, rfl, rfl⟩ rfl (by decide) (agg_int _) C.c12 D.c12 (ni a.seq b.seq _).1 (ni a.seq b.seq _).2 (fun A F hp => ?_)
  refine or_group (p := 91) (g := 12) (N := 174) F hp (by decide) (by decide) ⟨rfl, rfl, rfl⟩ ⟨rfl, rfl, rfl⟩ ⟨rfl, rfl, rfl⟩ ⟨rfl, rfl, rfl⟩ ⟨rfl, rfl, rfl⟩ ⟨rfl, rfl, rfl⟩ ⟨rfl, rfl, rfl⟩ rfl (by decide) (agg_int _) C.c13 D.c13 (ni a.seq2 b.seq2 _).1 (ni a.seq2 b.seq2 _).2 (fun A F hp => ?_)
  refine or_group (p := 98) (g := 19) (N := 174) F hp (by decide) (by decide) ⟨rfl, rfl, rfl⟩ ⟨rfl, rfl, rfl⟩ ⟨rfl, rfl, rfl⟩ ⟨rfl, rfl, rfl⟩ ⟨rfl, rfl, rfl⟩ ⟨rfl, rfl, rfl⟩ ⟨rfl, rfl, rfl⟩ rfl (by decide) (agg_int _) C.c14 D.c14 (ni a.interval b.interval _).1 (ni a.interval b.interval _).2 (fun A F hp => ?_)
  refine or_group (p := 105) (g := 26) (N := 174) F hp (by decide) (by decide) ⟨rfl, rfl, rfl⟩ ⟨rfl, rfl, rfl⟩ ⟨rfl, rfl, rfl⟩ ⟨rfl, rfl, rfl⟩ ⟨rfl, rfl, rfl⟩ ⟨rfl, rfl, rfl⟩ ⟨rfl, rfl, rfl⟩ rfl (by decide) (agg_int _) C.c15 D.c15 (ni a.flags b.flags _).1 (ni a.flags b.flags _).2 (fun A F hp => ?_)
  refine or_group (p := 112) (g := 33) (N := 174) F hp (by decide) (by decide) ⟨rfl, rfl, rfl⟩ ⟨rfl, rfl, rfl⟩ ⟨rfl, rfl, rfl⟩ ⟨rfl, rfl, rfl⟩ ⟨rfl, rfl, rfl⟩ ⟨rfl, rfl, rfl⟩ ⟨rfl, rfl, rfl⟩ rfl (by decide) (agg_int _) C.c16 D.c16 (ni a.hops b.hops _).1 (ni a.hops b.hops _).2 (fun A F hp => ?_)
  refine or_group (p := 119) (g := 40) (N := 174) F hp (by decide) (by decide) ⟨rfl, rfl, rfl⟩ ⟨rfl, rfl, rfl⟩ ⟨rfl, rfl, rfl⟩ ⟨rfl, rfl, rfl⟩ ⟨rfl, rfl, rfl⟩ ⟨rfl, rfl, rfl⟩ ⟨rfl, rfl, rfl⟩ rfl (by decide) (agg_int _) C.c17 D.c17 (ni a.nonce b.nonce _).1 (ni a.nonce b.nonce _).2 (fun A F hp => ?_)
  refine or_group (p := 126) (g := 47) (N := 174) F hp (by decide) (by decide) ⟨rfl, rfl, rfl⟩ ⟨rfl, rfl, rfl⟩ ⟨rfl, rfl, rfl⟩ ⟨rfl, rfl, rfl⟩ ⟨rfl, rfl, rfl⟩ ⟨rfl, rfl, rfl⟩ ⟨rfl, rfl, rfl⟩ rfl (by decide) (agg_int _) C.c18 D.c18 (ni a.cost b.cost _).1 (ni a.cost b.cost _).2 (fun A F hp => ?_)
  refine or_group (p := 133) (g := 54) (N := 174) F hp (by decide) (by decide) ⟨rfl, rfl, rfl⟩ ⟨rfl, rfl, rfl⟩ ⟨rfl, rfl, rfl⟩ ⟨rfl, rfl, rfl⟩ ⟨rfl, rfl, rfl⟩ ⟨rfl, rfl, rfl⟩ ⟨rfl, rfl, rfl⟩ rfl (by decide) (agg_str _) C.c19 D.c19 (ns a.addr b.addr _).1 (ns a.addr b.addr _).2 (fun A F hp => ?_)
  refine or_group (p := 140) (g := 61) (N := 174) F hp (by decide) (by decide) ⟨rfl, rfl, rfl⟩ ⟨rfl, rfl, rfl⟩ ⟨rfl, rfl, rfl⟩ ⟨rfl, rfl, rfl⟩ ⟨rfl, rfl, rfl⟩ ⟨rfl, rfl, rfl⟩ ⟨rfl, rfl, rfl⟩ rfl (by decide) (agg_str _) C.c20 D.c20 (ns a.orig b.orig _).1 (ns a.orig b.orig _).2 (fun A F hp => ?_)
  refine or_group (p := 147) (g := 68) (N := 174) F hp (by decide) (by decide) ⟨rfl, rfl, rfl⟩ ⟨rfl, rfl, rfl⟩ ⟨rfl, rfl, rfl⟩ ⟨rfl, rfl, rfl⟩ ⟨rfl, rfl, rfl⟩ ⟨rfl, rfl, rfl⟩ ⟨rfl, rfl, rfl⟩ rfl (by decide) (agg_int _) C.c22 D.c22 (ni a.typ b.typ _).1 (ni a.typ b.typ _).2 (fun A F hp => ?_)
  refine or_group (p := 154) (g := 75) (N := 174) F hp (by decide) (by decide) ⟨rfl, rfl, rfl⟩ ⟨rfl, rfl, rfl⟩ ⟨rfl, rfl, rfl⟩ ⟨rfl, rfl, rfl⟩ ⟨rfl, rfl, rfl⟩ ⟨rfl, rfl, rfl⟩ ⟨rfl, rfl, rfl⟩ rfl (by decide) (agg_str _) C.c23 D.c23 (ns a.data b.data _).1 (ns a.data b.data _).2 (fun A F hp => ?_)
  refine wpList_nil ?_
  refine wp_cond_split hp (fun ht => ?_) (fun hf2 => ?_)
  · refine wp_seq (wp_region_lit (l := [_]) ?_)
    refine st_yes (v := .bool false) (wanted_none rfl) rfl rfl (wpList_nil ?_)
    refine wp_ret ?_
    exact ret_slot4 (v := false) rfl (F.put (d := 4) (by decide)) (put_same (by rw [F.size]; decide)) (by rw [H1.out, ht]; simp) h0.2.2.2.2
  refine wp_skip ?_
  have H2 : M.same a b = (decide (a.ll = b.ll) && decide (a.sl = b.sl)) := by rw [H1.out, hf, hf2]; simp
  clear hp H1 hf hf2
  refine wp_seq (wp_region_lit (l := [_, _, _, _, _, _, _, _, _, _, _, _, _]) ?_)
  refine load_two (q := 162) (N := 174) (gd := none) F (by decide) (by decide) ⟨rfl, rfl, rfl⟩ ⟨rfl, rfl, rfl⟩ ⟨rfl, rfl, rfl⟩ ⟨rfl, rfl, rfl⟩ (fun _ _ _ o ho => wanted_none ho) (by decide) (agg_sl _).1 C.c21 D.c21 (fun A F e1 e2 _ => ?_)
  refine st_call (d := 166) (S := S2 w a b) (wanted_none rfl) rfl rfl (vs := #[.slice a.la a.ll.length a.lc, .slice b.la b.ll.length b.lc]) (by simp only [List.map_toArray, List.map_cons, List.map_nil, e1, e2]) (by go_simp) (PD.out _ h0) (fun W hS => ?_)
  have C := hS.1.cs
  have D := hS.2.1.cs
  have k1 : (A.put (some 166) (.bool (decide (a.ll = b.ll)))).eval (.tmp 166) = .bool (decide (a.ll = b.ll)) := put_same (by rw [F.size]; decide)
  have F1 := F.put (d := 166) (v := .bool (decide (a.ll = b.ll))) (by decide)
  clear F e1 e2
  generalize A.put (some 166) (.bool (decide (a.ll = b.ll))) = B at k1 F1 ⊢
  generalize decide (a.ll = b.ll) = r at k1 H2
  refine st_yes (v := .bool r) (wanted_none rfl) rfl (by rw [BigFrame.run_move _ rfl, k1]) ?_
  have k2 : (B.put (some 167) (.bool r)).eval (.tmp 167) = .bool r := put_same (by rw [F1.size]; decide)
  have F2 := F1.put (d := 167) (v := .bool r) (by decide)
  clear F1 k1
  generalize B.put (some 167) (.bool r) = B at k2 F2 ⊢
  cases r
  · refine st_no (by rw [wanted_some rfl rfl (by rw [F2.size]; decide) k2]; rfl) rfl ?_
    have F3 := F2.put (d := 168) (v := undef) (by decide)
    have k3 : (B.put (some 168) undef).eval (.tmp 167) = .bool false := (put_other (by decide)).trans k2
    generalize B.put (some 168) undef = B at k3 F3 ⊢
    refine st_no (by rw [wanted_some rfl rfl (by rw [F3.size]; decide) k3]; rfl) rfl ?_
    have F4 := F3.put (d := 169) (v := undef) (by decide)
    have k4 : (B.put (some 169) undef).eval (.tmp 167) = .bool false := (put_other (by decide)).trans k3
    generalize B.put (some 169) undef = B at k4 F4 ⊢
    refine st_no (by rw [wanted_some rfl rfl (by rw [F4.size]; decide) k4]; rfl) rfl ?_
    have F5 := F4.put (d := 170) (v := undef) (by decide)
    have k5 : (B.put (some 170) undef).eval (.tmp 167) = .bool false := (put_other (by decide)).trans k4
    generalize B.put (some 170) undef = B at k5 F5 ⊢
    refine st_no (by rw [wanted_some rfl rfl (by rw [F5.size]; decide) k5]; rfl) rfl ?_
    have F6 := F5.put (d := 171) (v := undef) (by decide)
    have k6 : (B.put (some 171) undef).eval (.tmp 167) = .bool false := (put_other (by decide)).trans k5
    generalize B.put (some 171) undef = B at k6 F6 ⊢
    refine st_no (by rw [wanted_some rfl rfl (by rw [F6.size]; decide) k6]; rfl) rfl ?_
    have F7 := F6.put (d := 172) (v := undef) (by decide)
    have k7 : (B.put (some 172) undef).eval (.tmp 167) = .bool false := (put_other (by decide)).trans k6
    generalize B.put (some 172) undef = B at k7 F7 ⊢
    refine st_yes (v := .bool false) (wanted_none rfl) rfl ((ex_pick rfl k7).trans (by rw [if_neg (by decide)]; rfl)) ?_
    have k8 : (B.put (some 173) (.bool false)).eval (.tmp 173) = .bool false := put_same (by rw [F7.size]; decide)
    have F8 := F7.put (d := 173) (v := .bool false) (by decide)
    generalize B.put (some 173) (.bool false) = B at k8 F8 ⊢
    refine st_yes (v := .bool false) (wanted_none rfl) rfl (by rw [BigFrame.run_assign _ rfl, k8]) (wpList_nil ?_)
    refine wp_ret ?_
    exact ret_slot4 (v := false) rfl (F8.put (d := 4) (by decide)) (put_same (by rw [F8.size]; decide)) (by rw [H2]; simp) hS.2.2.2.2
  · refine load_two (q := 168) (N := 174) (gd := some (5, true)) F2 (by decide) (by decide) ⟨rfl, rfl, rfl⟩ ⟨rfl, rfl, rfl⟩ ⟨rfl, rfl, rfl⟩ ⟨rfl, rfl, rfl⟩ (fun B' hs hk o ho => by rw [wanted_some ho rfl (by rw [hs]; decide) ((hk 167 (by decide)).trans k2)]; rfl) (by decide) (agg_sl _).2 C.c24 D.c24 (fun A F e1 e2 hk => ?_)
    have k3 : A.eval (.tmp 167) = .bool true := (hk 167 (by decide)).trans k2
    refine st_call (d := 172) (S := S2 w a b) (by rw [wanted_some rfl rfl (by rw [F.size]; decide) k3]; rfl) rfl rfl (vs := #[.slice a.sa a.sl.length a.sc, .slice b.sa b.sl.length b.sc]) (by simp only [List.map_toArray, List.map_cons, List.map_nil, e1, e2]) (by go_simp) (PS.out _ hS) (fun W hS => ?_)
    have k4 : (A.put (some 172) (.bool (decide (a.sl = b.sl)))).eval (.tmp 172) = .bool (decide (a.sl = b.sl)) := put_same (by rw [F.size]; decide)
    have k5 : (A.put (some 172) (.bool (decide (a.sl = b.sl)))).eval (.tmp 167) = .bool true := (put_other (by decide)).trans k3
    have F3 := F.put (d := 172) (v := .bool (decide (a.sl = b.sl))) (by decide)
    generalize A.put (some 172) (.bool (decide (a.sl = b.sl))) = B at k4 k5 F3 ⊢
    refine st_yes (v := .bool (decide (a.sl = b.sl))) (wanted_none rfl) rfl ((ex_pick rfl k5).trans (by rw [if_pos rfl, k4])) ?_
    have k8 : (B.put (some 173) (.bool (decide (a.sl = b.sl)))).eval (.tmp 173) = .bool (decide (a.sl = b.sl)) := put_same (by rw [F3.size]; decide)
    have F8 := F3.put (d := 173) (v := .bool (decide (a.sl = b.sl))) (by decide)
    generalize B.put (some 173) (.bool (decide (a.sl = b.sl))) = B at k8 F8 ⊢
    refine st_yes (v := .bool (decide (a.sl = b.sl))) (wanted_none rfl) rfl (by rw [BigFrame.run_assign _ rfl, k8]) (wpList_nil ?_)
    refine wp_ret ?_
    exact ret_slot4 rfl (F8.put (d := 4) (by decide)) (put_same (by rw [F8.size]; decide)) (by rw [H2]; simp) hS.2.2.2.2
end Go.Proofs.YteecialdkfaejaaDoor.RSame
