/-
  A long condition 'x.f != y.f || x.g != y.g || ..' over two messages, walked over a frame that is a variable: no way is parted.
  The bytes of Subs, and whether they may be: the program's answers and the document's. Conditions: lists of at most 2^20 elements, of at most 2^40 bytes together.
-/
import Derived.Test.YtjhfpobjbijcpaaGreatDoorB05
namespace Go.Proofs.YtjhfpobjbijcpaaGreatDoor.Or
open Go.ChangeShapes Go.WideShapes Go.ChangeAt Go.RowKit
open Go.Proofs.YtjhfpobjbijcpaaGreatDoor.Ms
open Go.Proofs.YtjhfpobjbijcpaaGreatDoor.Box
set_option linter.unusedVariables false
set_option maxRecDepth 100000

section
variable {P : Program} {ops : Array Oper} {Q : Exit → Act → World → Prop} {A : Act} {w : World} {rest : List Oper} {o : Oper}

theorem st_yes {d : Nat} {v : Value} (hw : Region.wanted o (yielded ops A.tmps) = true) (hd : o.dst = some d) (hy : (execOp A.eval o).run P w = .ok (.value v) w)
    (h : wpList P ops Q rest (A.put (some d) v) w) : wpList P ops Q (o :: rest) A w :=
  wpList_step fun K hK => by
    rw [if_pos hw]
    unfold Oper.wp
    rw [hy]
    simp only [Oper.upon, hd]
    exact hK _ _ h
theorem st_no {d : Nat} (hw : Region.wanted o (yielded ops A.tmps) = false) (hd : o.dst = some d)
    (h : wpList P ops Q rest (A.put (some d) undef) w) : wpList P ops Q (o :: rest) A w :=
  wpList_step fun K hK => by
    rw [if_neg (by rw [hw]; simp), hd]
    exact hK _ _ h

theorem put_size (d : Nat) (v : Value) : (A.put (some d) v).tmps.size = A.tmps.size := by simp [Act.put]
theorem put_same {d : Nat} {v : Value} (h : d < A.tmps.size) : (A.put (some d) v).eval (.tmp d) = v := by simp [Act.eval, Act.put, h]
theorem put_other {d t : Nat} {v : Value} (h : d ≠ t) : (A.put (some d) v).eval (.tmp t) = A.eval (.tmp t) := by simp [Act.eval, Act.put, Array.getElem?_setIfInBounds_ne h]
theorem yielded_eq {g : Nat} {d : Nat} {b : Bool} (hg : (ops[g]?).bind (·.dst) = some d) (hs : d < A.tmps.size) (hv : A.eval (.tmp d) = .bool b) : yielded ops A.tmps g = some b := by
  unfold yielded
  rw [hg]
  simp only [Act.eval, Array.getD_eq_getD_getElem?, Array.getElem?_eq_getElem hs, Option.getD_some] at hv
  simp [Array.getElem?_eq_getElem hs, hv]
theorem wanted_none (hg : o.guard = none) : Region.wanted o (yielded ops A.tmps) = true := by simp [Region.wanted, hg]
theorem wanted_some {g : Nat} {d : Nat} {b c : Bool} (ho : o.guard = some (g, c)) (hg : (ops[g]?).bind (·.dst) = some d) (hs : d < A.tmps.size) (hv : A.eval (.tmp d) = .bool b) : Region.wanted o (yielded ops A.tmps) = (b == c) := by
  simp [Region.wanted, ho, yielded_eq hg hs hv]
end

theorem ex_call {P : Program} {o : Oper} {ρ : Operand → Value} {f : Nat} {args : Array Operand} {ty : Array TypeId} {vs : Array Value} {w : World} (ho : o.op = .call ⟨.value (.func f), args, ty⟩) (hf : ρ (.func f) = .func (.func f) #[] #[]) (ha : args.map ρ = vs) (hcf : (callFunc f vs).run P w = .ok (.enter f vs) w) :
    (execOp ρ o).run P w = .ok (.enter f vs) w := by
  unfold execOp
  simp only [ho, resolve, hf, ha, go_sem]
  simpa [go_sem] using hcf
theorem st_call {P : Program} {ops : Array Oper} {Q : Exit → Act → World → Prop} {A : Act} {w : World} {rest : List Oper} {o : Oper} {d : Nat} {f : Nat} {args : Array Operand} {ty : Array TypeId} {vs : Array Value} {v : Value} {S : World → Prop}
    (hw : Region.wanted o (yielded ops A.tmps) = true) (hd : o.dst = some d) (ho : o.op = .call ⟨.value (.func f), args, ty⟩) (ha : args.map A.eval = vs) (hcf : (callFunc f vs).run P w = .ok (.enter f vs) w)
    (hc : Calls P f vs w fun e w' => e = .returned v ∧ S w') (h : ∀ w', S w' → wpList P ops Q rest (A.put (some d) v) w') : wpList P ops Q (o :: rest) A w :=
  wpList_step fun K hK => by
    rw [if_pos hw]
    unfold Oper.wp
    rw [ex_call ho rfl ha hcf, Oper.upon_enter]
    refine hc.mono ?_
    rintro e w' ⟨rfl, hS⟩
    rw [hd]
    exact hK _ _ (h w' hS)

theorem run_fieldM (b j : Nat) (hj : j < 25) (w : World) : (Instr.fieldAt 38 (.pointer (some ⟨b, 0, none⟩)) j).run Tryz.prog w = .ok (.pointer (some ⟨b, j, none⟩)) w := by
  rcases (show j = 0 ∨ j = 1 ∨ j = 2 ∨ j = 3 ∨ j = 4 ∨ j = 5 ∨ j = 6 ∨ j = 7 ∨ j = 8 ∨ j = 9 ∨ j = 10 ∨ j = 11 ∨ j = 12 ∨ j = 13 ∨ j = 14 ∨ j = 15 ∨ j = 16 ∨ j = 17 ∨ j = 18 ∨ j = 19 ∨ j = 20 ∨ j = 21 ∨ j = 22 ∨ j = 23 ∨ j = 24 by omega) with rfl | rfl | rfl | rfl | rfl | rfl | rfl | rfl | rfl | rfl | rfl | rfl | rfl | rfl | rfl | rfl | rfl | rfl | rfl | rfl | rfl | rfl | rfl | rfl | rfl <;> go_simp
theorem ex_field {o : Oper} {ρ : Operand → Value} {x : Operand} {b j : Nat} {w : World} (ho : o.op = .fieldAddr 38 x j) (hj : j < 25) (hx : ρ x = .pointer (some ⟨b, 0, none⟩)) :
    (execOp ρ o).run Tryz.prog w = .ok (.value (.pointer (some ⟨b, j, none⟩))) w := by
  unfold execOp
  simp only [ho, hx, Sem.run_bind, run_fieldM b j hj, Result.andThen_ok, Sem.run_pure]
theorem ex_load {o : Oper} {ρ : Operand → Value} {x : Operand} {T : TypeId} {p : Addr} {v : Value} {w : World} (ho : o.op = .load T x) (hT : (isAgg T).run Tryz.prog w = .ok false w) (hx : ρ x = .pointer (some p)) (hc : w.cell? p = some v) :
    (execOp ρ o).run Tryz.prog w = .ok (.value v) w := by
  unfold execOp
  simp only [ho, hx, Instr.loadAt, Instr.sureAddr, loadVar, hT, Sem.run_bind, Result.andThen_ok, Sem.run_pure, Bool.false_eq_true, if_false, run_load, hc]
theorem ex_neq {o : Oper} {ρ : Operand → Value} {x y : Operand} {T T' : TypeId} {u v : Value} {r : Bool} {w : World} (ho : o.op = .binOp .neq T x y T') (hx : ρ x = u) (hy : ρ y = v)
    (h1 : (eqGuard .neq T x y u v).run Tryz.prog w = .ok () w) (h2 : (binOp .neq T u v).run Tryz.prog w = .ok (.bool r) w) : (execOp ρ o).run Tryz.prog w = .ok (.value (.bool r)) w := by
  unfold execOp
  simp only [ho, hx, hy, Sem.run_bind, h1, h2, Result.andThen_ok, Sem.run_pure]
theorem ex_pick {o : Oper} {ρ : Operand → Value} {c x y : Operand} {r : Bool} {w : World} (ho : o.op = .pick c x y) (hc : ρ c = .bool r) :
    (execOp ρ o).run Tryz.prog w = .ok (.value (if r then ρ x else ρ y)) w := by
  unfold execOp
  simp only [ho, hc, asBool, Sem.run_bind, Result.andThen_ok, Sem.run_pure]

theorem agg_int (w : World) : (isAgg 3).run Tryz.prog w = .ok false w := by go_simp
theorem agg_str (w : World) : (isAgg 9).run Tryz.prog w = .ok false w := by go_simp

/-- The frame: its size, the two variables' addresses. -/
structure Fr (A : Act) (N n : Nat) : Prop where
  size : A.tmps.size = N
  defers : A.defers = []
  x : A.eval (.tmp 2) = .pointer (some ⟨n, 0, none⟩)
  y : A.eval (.tmp 3) = .pointer (some ⟨n + 1, 0, none⟩)
theorem Fr.put {A : Act} {N n : Nat} (h : Fr A N n) {d : Nat} {v : Value} (hd : 3 < d) : Fr (A.put (some d) v) N n :=
  ⟨(put_size d v).trans h.size, h.defers, (put_other (by omega)).trans h.x, (put_other (by omega)).trans h.y⟩

section
variable {ops : Array Oper} {Q : Exit → Act → World → Prop} {A : Act} {w : World} {rest : List Oper}

theorem first_group {N p n j : Nat} {r : Bool} {T : TypeId} {u v : Value} {o1 o2 o3 o4 o5 : Oper} (F : Fr A N n) (h4 : 3 < p) (hN : p + 4 < N)
    (e1 : o1.dst = some p ∧ o1.op = .fieldAddr 38 (.tmp 2) j ∧ o1.guard = none) (e2 : o2.dst = some (p + 1) ∧ o2.op = .load T (.tmp p) ∧ o2.guard = none)
    (e3 : o3.dst = some (p + 2) ∧ o3.op = .fieldAddr 38 (.tmp 3) j ∧ o3.guard = none) (e4 : o4.dst = some (p + 3) ∧ o4.op = .load T (.tmp (p + 2)) ∧ o4.guard = none)
    (e5 : o5.dst = some (p + 4) ∧ o5.op = .binOp .neq T (.tmp (p + 1)) (.tmp (p + 3)) T ∧ o5.guard = none)
    (hj : j < 25) (hT : (isAgg T).run Tryz.prog w = .ok false w) (cu : w.cell? ⟨n, j, none⟩ = some u) (cv : w.cell? ⟨n + 1, j, none⟩ = some v)
    (h1 : ∀ x y, (eqGuard .neq T x y u v).run Tryz.prog w = .ok () w) (h2 : (binOp .neq T u v).run Tryz.prog w = .ok (.bool r) w)
    (h : ∀ A', Fr A' N n → A'.eval (.tmp (p + 4)) = .bool r → wpList Tryz.prog ops Q rest A' w) : wpList Tryz.prog ops Q (o1 :: o2 :: o3 :: o4 :: o5 :: rest) A w := by
  have hs := F.size
  refine st_yes (wanted_none e1.2.2) e1.1 (ex_field e1.2.1 hj F.x) ?_
  refine st_yes (wanted_none e2.2.2) e2.1 (ex_load e2.2.1 hT (put_same (by omega)) cu) ?_
  refine st_yes (wanted_none e3.2.2) e3.1 (ex_field e3.2.1 hj ((F.put (d := p) h4).put (d := p + 1) (by omega)).y) ?_
  refine st_yes (wanted_none e4.2.2) e4.1 (ex_load e4.2.1 hT (put_same (by simp only [put_size]; omega)) cv) ?_
  refine st_yes (wanted_none e5.2.2) e5.1 (ex_neq e5.2.1 ?_ (put_same (by simp only [put_size]; omega)) (h1 _ _) h2) ?_
  · exact (put_other (by omega)).trans ((put_other (by omega)).trans (put_same (by simp only [put_size]; omega)))
  · exact h _ (((((F.put (d := p) h4).put (d := p + 1) (by omega)).put (d := p + 2) (by omega)).put (d := p + 3) (by omega)).put (d := p + 4) (by omega)) (put_same (by simp only [put_size]; omega))

set_option maxHeartbeats 1600000 in
theorem or_group {N p n j g : Nat} {r r2 : Bool} {T : TypeId} {u v : Value} {o1 o2 o3 o4 o5 o6 o7 : Oper} (F : Fr A N n) (hp : A.eval (.tmp p) = .bool r) (h4 : 3 < p) (hN : p + 7 < N)
    (e1 : o1.dst = some (p + 1) ∧ o1.op = .move (.tmp p) ∧ o1.guard = none)
    (e2 : o2.dst = some (p + 2) ∧ o2.op = .fieldAddr 38 (.tmp 2) j ∧ o2.guard = some (g, false)) (e3 : o3.dst = some (p + 3) ∧ o3.op = .load T (.tmp (p + 2)) ∧ o3.guard = some (g, false))
    (e4 : o4.dst = some (p + 4) ∧ o4.op = .fieldAddr 38 (.tmp 3) j ∧ o4.guard = some (g, false)) (e5 : o5.dst = some (p + 5) ∧ o5.op = .load T (.tmp (p + 4)) ∧ o5.guard = some (g, false))
    (e6 : o6.dst = some (p + 6) ∧ o6.op = .binOp .neq T (.tmp (p + 3)) (.tmp (p + 5)) T ∧ o6.guard = some (g, false))
    (e7 : o7.dst = some (p + 7) ∧ o7.op = .pick (.tmp (p + 1)) (.const (.bool true)) (.tmp (p + 6)) ∧ o7.guard = none)
    (hg : (ops[g]?).bind (·.dst) = some (p + 1))
    (hj : j < 25) (hT : (isAgg T).run Tryz.prog w = .ok false w) (cu : w.cell? ⟨n, j, none⟩ = some u) (cv : w.cell? ⟨n + 1, j, none⟩ = some v)
    (h1 : ∀ x y, (eqGuard .neq T x y u v).run Tryz.prog w = .ok () w) (h2 : (binOp .neq T u v).run Tryz.prog w = .ok (.bool r2) w)
    (h : ∀ A', Fr A' N n → A'.eval (.tmp (p + 7)) = .bool (r || r2) → wpList Tryz.prog ops Q rest A' w) : wpList Tryz.prog ops Q (o1 :: o2 :: o3 :: o4 :: o5 :: o6 :: o7 :: rest) A w := by
  have hs := F.size
  have F1 := F.put (d := p + 1) (v := .bool r) (by omega)
  refine st_yes (v := .bool r) (wanted_none e1.2.2) e1.1 (by rw [BigFrame.run_move _ e1.2.1, hp]) ?_
  have hv : (A.put (some (p + 1)) (.bool r)).eval (.tmp (p + 1)) = .bool r := put_same (by omega)
  generalize A.put (some (p + 1)) (.bool r) = B at *
  have hb := F1.size
  cases r
  · refine st_yes (by rw [wanted_some e2.2.2 hg (by omega) hv]; rfl) e2.1 (ex_field e2.2.1 hj F1.x) ?_
    have k1 : ∀ x, (B.put (some (p + 2)) x).eval (.tmp (p + 1)) = .bool false := fun x => (put_other (by omega)).trans hv
    refine st_yes (by rw [wanted_some e3.2.2 hg (by simp only [put_size]; omega) (k1 _)]; rfl) e3.1 (ex_load e3.2.1 hT (put_same (by omega)) cu) ?_
    have k2 : ∀ x y, ((B.put (some (p + 2)) x).put (some (p + 3)) y).eval (.tmp (p + 1)) = .bool false := fun x y => (put_other (by omega)).trans (k1 x)
    refine st_yes (by rw [wanted_some e4.2.2 hg (by simp only [put_size]; omega) (k2 _ _)]; rfl) e4.1 (ex_field e4.2.1 hj ((F1.put (d := p + 2) (by omega)).put (d := p + 3) (by omega)).y) ?_
    have k3 : ∀ x y z, (((B.put (some (p + 2)) x).put (some (p + 3)) y).put (some (p + 4)) z).eval (.tmp (p + 1)) = .bool false := fun x y z => (put_other (by omega)).trans (k2 x y)
    refine st_yes (by rw [wanted_some e5.2.2 hg (by simp only [put_size]; omega) (k3 _ _ _)]; rfl) e5.1 (ex_load e5.2.1 hT (put_same (by simp only [put_size]; omega)) cv) ?_
    have k4 : ∀ x y z t, ((((B.put (some (p + 2)) x).put (some (p + 3)) y).put (some (p + 4)) z).put (some (p + 5)) t).eval (.tmp (p + 1)) = .bool false := fun x y z t => (put_other (by omega)).trans (k3 x y z)
    refine st_yes (by rw [wanted_some e6.2.2 hg (by simp only [put_size]; omega) (k4 _ _ _ _)]; rfl) e6.1 (ex_neq e6.2.1 ?_ (put_same (by simp only [put_size]; omega)) (h1 _ _) h2) ?_
    · exact (put_other (by omega)).trans ((put_other (by omega)).trans (put_same (by simp only [put_size]; omega)))
    · refine st_yes (v := .bool r2) (wanted_none e7.2.2) e7.1 ?_ ?_
      · refine (ex_pick e7.2.1 (r := false) ((put_other (by omega)).trans (k4 _ _ _ _))).trans ?_
        rw [if_neg (by decide)]
        exact congrArg (fun v => Result.ok (Next.value v) w) (put_same (by simp only [put_size]; omega))
      · exact h _ ((((((F1.put (d := p + 2) (by omega)).put (d := p + 3) (by omega)).put (d := p + 4) (by omega)).put (d := p + 5) (by omega)).put (d := p + 6) (by omega)).put (d := p + 7) (by omega)) ((put_same (by simp only [put_size]; omega)).trans (by simp))
  · refine st_no (by rw [wanted_some e2.2.2 hg (by omega) hv]; rfl) e2.1 ?_
    have k1 : ∀ x, (B.put (some (p + 2)) x).eval (.tmp (p + 1)) = .bool true := fun x => (put_other (by omega)).trans hv
    refine st_no (by rw [wanted_some e3.2.2 hg (by simp only [put_size]; omega) (k1 _)]; rfl) e3.1 ?_
    have k2 : ∀ x y, ((B.put (some (p + 2)) x).put (some (p + 3)) y).eval (.tmp (p + 1)) = .bool true := fun x y => (put_other (by omega)).trans (k1 x)
    refine st_no (by rw [wanted_some e4.2.2 hg (by simp only [put_size]; omega) (k2 _ _)]; rfl) e4.1 ?_
    have k3 : ∀ x y z, (((B.put (some (p + 2)) x).put (some (p + 3)) y).put (some (p + 4)) z).eval (.tmp (p + 1)) = .bool true := fun x y z => (put_other (by omega)).trans (k2 x y)
    refine st_no (by rw [wanted_some e5.2.2 hg (by simp only [put_size]; omega) (k3 _ _ _)]; rfl) e5.1 ?_
    have k4 : ∀ x y z t, ((((B.put (some (p + 2)) x).put (some (p + 3)) y).put (some (p + 4)) z).put (some (p + 5)) t).eval (.tmp (p + 1)) = .bool true := fun x y z t => (put_other (by omega)).trans (k3 x y z)
    refine st_no (by rw [wanted_some e6.2.2 hg (by simp only [put_size]; omega) (k4 _ _ _ _)]; rfl) e6.1 ?_
    refine st_yes (v := .bool true) (wanted_none e7.2.2) e7.1 ?_ ?_
    · refine (ex_pick e7.2.1 (r := true) ((put_other (by omega)).trans (k4 _ _ _ _))).trans ?_
      rw [if_pos rfl]; rfl
    · exact h _ ((((((F1.put (d := p + 2) (by omega)).put (d := p + 3) (by omega)).put (d := p + 4) (by omega)).put (d := p + 5) (by omega)).put (d := p + 6) (by omega)).put (d := p + 7) (by omega)) ((put_same (by simp only [put_size]; omega)).trans (by simp))
end
end Go.Proofs.YtjhfpobjbijcpaaGreatDoor.Or
namespace Go.Proofs.YtjhfpobjbijcpaaGreatDoor.Cnt
open Go.ChangeShapes Go.WideShapes Go.ChangeAt Go.RowKit
open Go.Proofs.YtjhfpobjbijcpaaGreatDoor.Ms
open Go.Proofs.YtjhfpobjbijcpaaGreatDoor.Box
open Go.Proofs.YtjhfpobjbijcpaaGreatDoor.Same
set_option linter.unusedVariables false
set_option maxRecDepth 100000

/-- The bytes of Subs. -/
def bytesN (l : List El) : Nat := (l.map fun x => 2 + x.1.size).sum
theorem bytes_take (l : List El) (k : Nat) (h : k < l.length) : bytesN (l.take (k + 1)) = bytesN (l.take k) + (2 + l[k].1.size) := by
  unfold bytesN
  rw [List.take_succ_eq_append_getElem h, List.map_append, List.sum_append]
  simp only [List.map_cons, List.map_nil, List.sum_cons, List.sum_nil, Nat.add_zero]
theorem bytes_le (l : List El) (k : Nat) : bytesN (l.take k) ≤ bytesN l := by
  conv => rhs; rw [← List.take_append_drop k l]
  unfold bytesN
  rw [List.map_append, List.sum_append]
  omega
theorem int_eq {k : IntKind} {a b : Int} (h : a = b) : Ending.returned (.int k a) = .returned (.int k b) := by rw [h]

set_option maxHeartbeats 1600000 in
theorem bytes_any (a : Option Addr) (c : Nat) (l : List El) (w : World) (hl : SRow w a l) (ln : l.length ≤ 1048576) (lb : bytesN l ≤ 1099511627776) :
    Calls Tryz.prog 118 #[.slice a l.length c] w fun e w' => e = .returned (.int .i64 (bytesN l : Nat)) ∧ Below w.heap.size w w' := by
  have LB := Lib.hid lb
  clear lb
  go_enter Tryz.func118, Tryz.ntmps118
  go_wp2
  go_loopw [3, 8] (fun n i wr => ∃ k : Nat, k ≤ l.length ∧ i = .int .i64 k ∧ n = .int .i64 (bytesN (l.take k) : Nat) ∧ Hid (Below w.heap.size w wr)) (fun _ i _ => l.length - (intOf i).toNat)
  case atStart => exact ⟨0, Nat.zero_le _, rfl, rfl, Lib.hid (Below.refl _ _)⟩
  case round =>
    obtain ⟨k, hk, rfl, rfl, HB⟩ := hrel
    by_cases hlt : k < l.length
    · obtain ⟨p, rfl, hp, c0, c1⟩ := (hl.below HB.out) k hlt
      have HT := Lib.hid (bytes_take l k hlt)
      have HM := Lib.hid (bytes_le l (k + 1))
      have hs : l[k].1.size ≤ 1099511627776 ∧ bytesN (l.take k) ≤ 1099511627776 := by have := HT.out; have := HM.out; have := LB.out; omega
      obtain ⟨hs, hs2⟩ := hs
      clear hl
      rw [add_one] at c1
      generalize l[k] = u at *
      generalize hq : bytesN (l.take k) = q at *
      clear hq
      go_wp2
      go_roundw
      case rel => exact ⟨k + 1, hlt, by go_num, by rw [HT.out]; congr 1, Lib.hid ((HB.out.alloc HB.out.size _))⟩
      case measure => simp [intOf]; omega
    · obtain rfl : k = l.length := by omega
      go_wp2
      go_ret
      exact ⟨int_eq (by rw [List.take_length]), HB.out⟩
set_option maxHeartbeats 1600000 in
theorem rbytes_any (a : Option Addr) (c : Nat) (l : List El) (w : World) (hl : SRow w a l) (ln : l.length ≤ 1048576) (lb : bytesN l ≤ 1099511627776) :
    Calls Tryz.prog 81 #[.slice a l.length c] w fun e w' => e = .returned (.int .i64 (bytesN l : Nat)) ∧ Below w.heap.size w w' := by
  have LB := Lib.hid lb
  clear lb
  go_enter Tryz.func81, Tryz.ntmps81
  go_wp2
  go_loopw [3, 4] (fun n i wr => ∃ k : Nat, k ≤ l.length ∧ i = .int .i64 k ∧ n = .int .i64 (bytesN (l.take k) : Nat) ∧ Hid (Below w.heap.size w wr)) (fun _ i _ => l.length - (intOf i).toNat)
  case atStart => exact ⟨0, Nat.zero_le _, rfl, rfl, Lib.hid (Below.refl _ _)⟩
  case round =>
    obtain ⟨k, hk, rfl, rfl, HB⟩ := hrel
    by_cases hlt : k < l.length
    · obtain ⟨p, rfl, hp, c0, c1⟩ := (hl.below HB.out) k hlt
      have HT := Lib.hid (bytes_take l k hlt)
      have HM := Lib.hid (bytes_le l (k + 1))
      have hs : l[k].1.size ≤ 1099511627776 ∧ bytesN (l.take k) ≤ 1099511627776 := by have := HT.out; have := HM.out; have := LB.out; omega
      obtain ⟨hs, hs2⟩ := hs
      clear hl
      rw [add_one] at c1
      generalize l[k] = u at *
      generalize hq : bytesN (l.take k) = q at *
      clear hq
      go_wp2
      go_roundw
      case rel => exact ⟨k + 1, hlt, by go_num, by rw [HT.out]; congr 1; push_cast; omega, HB⟩
      case measure => simp [intOf]; omega
    · obtain rfl : k = l.length := by omega
      go_wp2
      go_ret
      exact ⟨int_eq (by rw [List.take_length]), HB.out⟩
/-- May the Subs be? -/
def mayB (l : List El) (lo hi : Int) : Bool := l.all fun x => decide (lo ≤ x.2) && (decide (x.2 ≤ hi) && decide (x.1.size ≤ 255))
theorem may_take (l : List El) (lo hi : Int) (k : Nat) (h : k < l.length) : mayB (l.take (k + 1)) lo hi = (mayB (l.take k) lo hi && (decide (lo ≤ l[k].2) && (decide (l[k].2 ≤ hi) && decide (l[k].1.size ≤ 255)))) := by
  unfold mayB
  rw [List.take_succ_eq_append_getElem h, List.all_append]
  simp
theorem may_not (l : List El) (lo hi : Int) (k : Nat) (h : k < l.length) (hn : (decide (lo ≤ l[k].2) && (decide (l[k].2 ≤ hi) && decide (l[k].1.size ≤ 255))) = false) : mayB l lo hi = false := by
  unfold mayB
  rw [List.all_eq_false]
  exact ⟨l[k], List.getElem_mem h, by rw [hn]; simp⟩

set_option maxHeartbeats 1600000 in
theorem may_any (a : Option Addr) (c : Nat) (l : List El) (lo hi : Int) (w : World) (hl : SRow w a l) (ln : l.length ≤ 1048576) (lb : ∀ x ∈ l, x.1.size ≤ 1099511627776) :
    Calls Tryz.prog 117 #[.slice a l.length c, .int .i64 lo, .int .i64 hi] w fun e w' => e = .returned (.bool (mayB l lo hi)) ∧ Below w.heap.size w w' := by
  have LB := Lib.hid lb
  clear lb
  go_enter Tryz.func117, Tryz.ntmps117
  go_wp2
  go_loopw [11] (fun i wr => ∃ k : Nat, k ≤ l.length ∧ i = .int .i64 k ∧ Hid (mayB (l.take k) lo hi = true) ∧ Hid (Below w.heap.size w wr)) (fun i _ => l.length - (intOf i).toNat)
  case atStart => exact ⟨0, Nat.zero_le _, rfl, Lib.hid rfl, Lib.hid (Below.refl _ _)⟩
  case round =>
    obtain ⟨k, hk, rfl, HN, HB⟩ := hrel
    by_cases hlt : k < l.length
    · obtain ⟨p, rfl, hp, c0, c1⟩ := (hl.below HB.out) k hlt
      have HT := Lib.hid (may_take l lo hi k hlt)
      have HF := Lib.hid (may_not l lo hi k hlt)
      have hs := LB.out _ (List.getElem_mem hlt)
      have HBA := Lib.hid (fun o => HB.out.alloc HB.out.size o)
      clear hl
      rw [add_one] at c1
      generalize l[k] = u at *
      obtain ⟨s, n⟩ := u
      by_cases h1 : n < lo
      · go_wp2
        go_ret
        exact ⟨bool_eq (by symm; apply HF.out; simp; omega), HBA.out _⟩
      · by_cases h2 : hi < n
        · go_wp2
          go_ret
          exact ⟨bool_eq (by symm; apply HF.out; simp; omega), HBA.out _⟩
        · by_cases h3 : 255 < s.size
          · go_wp2
            go_ret
            exact ⟨bool_eq (by symm; apply HF.out; simp; omega), HBA.out _⟩
          · go_wp2
            go_roundw
            case rel => exact ⟨k + 1, hlt, by go_num, Lib.hid (by rw [HT.out, HN.out]; simp; omega), Lib.hid (HBA.out _)⟩
            case measure => simp [intOf]; omega
    · obtain rfl : k = l.length := by omega
      go_wp2
      go_ret
      exact ⟨bool_eq (by have := HN.out; rw [List.take_length] at this; exact this.symm), HB.out⟩

end Go.Proofs.YtjhfpobjbijcpaaGreatDoor.Cnt
