/-
  A long condition 'x.f != y.f || x.g != y.g || ..' over two messages, walked over a frame that is a variable: no way is parted.
  The bytes of Subs, and whether they may be: the program's answers and the document's. Conditions: lists of at most 2^20 elements, of at most 2^40 bytes together.
  Which Subs may be, their bytes, and which Subs bytes hold: definitions on values alone, and facts on them. No conditions.
  addr's Link, Short and Long, and the document's: each by one function of the bytes. No condition.
  Whether two messages are the same: the document's answer. Condition: lists of at most 2^20 elements.
  A message with the fields of its kind alone: what the program makes of it.
  TLVs whose fields stand alone: which messages may be, their bytes, and which message a TLV says: definitions on values alone, and facts on them. No conditions.
  Bits of bytes, as numbers: which are 1, which are kept, how many two texts have alike from the first one on.
-/
import Derived.Test.YtpkmpinbpfblfaaGreatDoorQ01
import Derived.Test.YtpkmpinbpfblfaaGreatDoorRows
namespace Go.Proofs.YtpkmpinbpfblfaaGreatDoor.Or
open Go.ChangeShapes Go.WideShapes Go.ChangeAt Go.RowKit
open Go.Proofs.YtpkmpinbpfblfaaGreatDoor.Ms
open Go.Proofs.YtpkmpinbpfblfaaGreatDoor.Box
set_option linter.unusedVariables false
set_option maxRecDepth 100000

section
variable {P : Program} {ops : Array Oper} {Q : Exit → Act → World → Prop} {A : Act} {w : World} {rest : List Oper} {o : Oper}

theorem st_yes {d : Nat} {v : Value} (hw : Region.wanted o (yielded ops A.tmps) = true) (hd : o.dst = some d) (hy : (execOp A.eval o).run P w = .ok (.value v) w)
    (h : wpList P ops Q rest (A.put (some d) v) w) : wpList P ops Q (o :: rest) A w :=
  wpList_step fun K hK => by
    rw [if_pos hw]
    unfold Oper.wp
    rw [hy]
    simp only [Oper.upon, hd]
    exact hK _ _ h
theorem st_no {d : Nat} (hw : Region.wanted o (yielded ops A.tmps) = false) (hd : o.dst = some d)
    (h : wpList P ops Q rest (A.put (some d) undef) w) : wpList P ops Q (o :: rest) A w :=
  wpList_step fun K hK => by
    rw [if_neg (by rw [hw]; simp), hd]
    exact hK _ _ h

theorem put_size (d : Nat) (v : Value) : (A.put (some d) v).tmps.size = A.tmps.size := by simp [Act.put]
theorem put_same {d : Nat} {v : Value} (h : d < A.tmps.size) : (A.put (some d) v).eval (.tmp d) = v := by simp [Act.eval, Act.put, h]
theorem put_other {d t : Nat} {v : Value} (h : d ≠ t) : (A.put (some d) v).eval (.tmp t) = A.eval (.tmp t) := by simp [Act.eval, Act.put, Array.getElem?_setIfInBounds_ne h]
theorem yielded_eq {g : Nat} {d : Nat} {b : Bool} (hg : (ops[g]?).bind (·.dst) = some d) (hs : d < A.tmps.size) (hv : A.eval (.tmp d) = .bool b) : yielded ops A.tmps g = some b := by
  unfold yielded
  rw [hg]
  simp only [Act.eval, Array.getD_eq_getD_getElem?, Array.getElem?_eq_getElem hs, Option.getD_some] at hv
  simp [Array.getElem?_eq_getElem hs, hv]
theorem wanted_none (hg : o.guard = none) : Region.wanted o (yielded ops A.tmps) = true := by simp [Region.wanted, hg]
theorem wanted_some {g : Nat} {d : Nat} {b c : Bool} (ho : o.guard = some (g, c)) (hg : (ops[g]?).bind (·.dst) = some d) (hs : d < A.tmps.size) (hv : A.eval (.tmp d) = .bool b) : Region.wanted o (yielded ops A.tmps) = (b == c) := by
  simp [Region.wanted, ho, yielded_eq hg hs hv]
end

theorem ex_call {P : Program} {o : Oper} {ρ : Operand → Value} {f : Nat} {args : Array Operand} {ty : Array TypeId} {vs : Array Value} {w : World} (ho : o.op = .call ⟨.value (.func f), args, ty⟩) (hf : ρ (.func f) = .func (.func f) #[] #[]) (ha : args.map ρ = vs) (hcf : (callFunc f vs).run P w = .ok (.enter f vs) w) :
    (execOp ρ o).run P w = .ok (.enter f vs) w := by
  unfold execOp
  simp only [ho, resolve, hf, ha, go_sem]
  simpa [go_sem] using hcf
theorem st_call {P : Program} {ops : Array Oper} {Q : Exit → Act → World → Prop} {A : Act} {w : World} {rest : List Oper} {o : Oper} {d : Nat} {f : Nat} {args : Array Operand} {ty : Array TypeId} {vs : Array Value} {v : Value} {S : World → Prop}
    (hw : Region.wanted o (yielded ops A.tmps) = true) (hd : o.dst = some d) (ho : o.op = .call ⟨.value (.func f), args, ty⟩) (ha : args.map A.eval = vs) (hcf : (callFunc f vs).run P w = .ok (.enter f vs) w)
    (hc : Calls P f vs w fun e w' => e = .returned v ∧ S w') (h : ∀ w', S w' → wpList P ops Q rest (A.put (some d) v) w') : wpList P ops Q (o :: rest) A w :=
  wpList_step fun K hK => by
    rw [if_pos hw]
    unfold Oper.wp
    rw [ex_call ho rfl ha hcf, Oper.upon_enter]
    refine hc.mono ?_
    rintro e w' ⟨rfl, hS⟩
    rw [hd]
    exact hK _ _ (h w' hS)

theorem run_fieldM (b j : Nat) (hj : j < 25) (w : World) : (Instr.fieldAt 43 (.pointer (some ⟨b, 0, none⟩)) j).run Tryz.prog w = .ok (.pointer (some ⟨b, j, none⟩)) w := by
  rcases (show j = 0 ∨ j = 1 ∨ j = 2 ∨ j = 3 ∨ j = 4 ∨ j = 5 ∨ j = 6 ∨ j = 7 ∨ j = 8 ∨ j = 9 ∨ j = 10 ∨ j = 11 ∨ j = 12 ∨ j = 13 ∨ j = 14 ∨ j = 15 ∨ j = 16 ∨ j = 17 ∨ j = 18 ∨ j = 19 ∨ j = 20 ∨ j = 21 ∨ j = 22 ∨ j = 23 ∨ j = 24 by omega) with rfl | rfl | rfl | rfl | rfl | rfl | rfl | rfl | rfl | rfl | rfl | rfl | rfl | rfl | rfl | rfl | rfl | rfl | rfl | rfl | rfl | rfl | rfl | rfl | rfl <;> go_simp
theorem ex_field {o : Oper} {ρ : Operand → Value} {x : Operand} {b j : Nat} {w : World} (ho : o.op = .fieldAddr 43 x j) (hj : j < 25) (hx : ρ x = .pointer (some ⟨b, 0, none⟩)) :
    (execOp ρ o).run Tryz.prog w = .ok (.value (.pointer (some ⟨b, j, none⟩))) w := by
  unfold execOp
  simp only [ho, hx, Sem.run_bind, run_fieldM b j hj, Result.andThen_ok, Sem.run_pure]
theorem ex_load {o : Oper} {ρ : Operand → Value} {x : Operand} {T : TypeId} {p : Addr} {v : Value} {w : World} (ho : o.op = .load T x) (hT : (isAgg T).run Tryz.prog w = .ok false w) (hx : ρ x = .pointer (some p)) (hc : w.cell? p = some v) :
    (execOp ρ o).run Tryz.prog w = .ok (.value v) w := by
  unfold execOp
  simp only [ho, hx, Instr.loadAt, Instr.sureAddr, loadVar, hT, Sem.run_bind, Result.andThen_ok, Sem.run_pure, Bool.false_eq_true, if_false, run_load, hc]
theorem ex_neq {o : Oper} {ρ : Operand → Value} {x y : Operand} {T T' : TypeId} {u v : Value} {r : Bool} {w : World} (ho : o.op = .binOp .neq T x y T') (hx : ρ x = u) (hy : ρ y = v)
    (h1 : (eqGuard .neq T x y u v).run Tryz.prog w = .ok () w) (h2 : (binOp .neq T u v).run Tryz.prog w = .ok (.bool r) w) : (execOp ρ o).run Tryz.prog w = .ok (.value (.bool r)) w := by
  unfold execOp
  simp only [ho, hx, hy, Sem.run_bind, h1, h2, Result.andThen_ok, Sem.run_pure]
theorem ex_pick {o : Oper} {ρ : Operand → Value} {c x y : Operand} {r : Bool} {w : World} (ho : o.op = .pick c x y) (hc : ρ c = .bool r) :
    (execOp ρ o).run Tryz.prog w = .ok (.value (if r then ρ x else ρ y)) w := by
  unfold execOp
  simp only [ho, hc, asBool, Sem.run_bind, Result.andThen_ok, Sem.run_pure]

theorem agg_int (w : World) : (isAgg 3).run Tryz.prog w = .ok false w := by go_simp
theorem agg_str (w : World) : (isAgg 9).run Tryz.prog w = .ok false w := by go_simp

/-- The frame: its size, the two variables' addresses. -/
structure Fr (A : Act) (N n : Nat) : Prop where
  size : A.tmps.size = N
  defers : A.defers = []
  x : A.eval (.tmp 2) = .pointer (some ⟨n, 0, none⟩)
  y : A.eval (.tmp 3) = .pointer (some ⟨n + 1, 0, none⟩)
theorem Fr.put {A : Act} {N n : Nat} (h : Fr A N n) {d : Nat} {v : Value} (hd : 3 < d) : Fr (A.put (some d) v) N n :=
  ⟨(put_size d v).trans h.size, h.defers, (put_other (by omega)).trans h.x, (put_other (by omega)).trans h.y⟩

section
variable {ops : Array Oper} {Q : Exit → Act → World → Prop} {A : Act} {w : World} {rest : List Oper}

theorem first_group {N p n j : Nat} {r : Bool} {T : TypeId} {u v : Value} {o1 o2 o3 o4 o5 : Oper} (F : Fr A N n) (h4 : 3 < p) (hN : p + 4 < N)
    (e1 : o1.dst = some p ∧ o1.op = .fieldAddr 43 (.tmp 2) j ∧ o1.guard = none) (e2 : o2.dst = some (p + 1) ∧ o2.op = .load T (.tmp p) ∧ o2.guard = none)
    (e3 : o3.dst = some (p + 2) ∧ o3.op = .fieldAddr 43 (.tmp 3) j ∧ o3.guard = none) (e4 : o4.dst = some (p + 3) ∧ o4.op = .load T (.tmp (p + 2)) ∧ o4.guard = none)
    (e5 : o5.dst = some (p + 4) ∧ o5.op = .binOp .neq T (.tmp (p + 1)) (.tmp (p + 3)) T ∧ o5.guard = none)
    (hj : j < 25) (hT : (isAgg T).run Tryz.prog w = .ok false w) (cu : w.cell? ⟨n, j, none⟩ = some u) (cv : w.cell? ⟨n + 1, j, none⟩ = some v)
    (h1 : ∀ x y, (eqGuard .neq T x y u v).run Tryz.prog w = .ok () w) (h2 : (binOp .neq T u v).run Tryz.prog w = .ok (.bool r) w)
    (h : ∀ A', Fr A' N n → A'.eval (.tmp (p + 4)) = .bool r → wpList Tryz.prog ops Q rest A' w) : wpList Tryz.prog ops Q (o1 :: o2 :: o3 :: o4 :: o5 :: rest) A w := by
  have hs := F.size
  refine st_yes (wanted_none e1.2.2) e1.1 (ex_field e1.2.1 hj F.x) ?_
  refine st_yes (wanted_none e2.2.2) e2.1 (ex_load e2.2.1 hT (put_same (by omega)) cu) ?_
  refine st_yes (wanted_none e3.2.2) e3.1 (ex_field e3.2.1 hj ((F.put (d := p) h4).put (d := p + 1) (by omega)).y) ?_
  refine st_yes (wanted_none e4.2.2) e4.1 (ex_load e4.2.1 hT (put_same (by simp only [put_size]; omega)) cv) ?_
  refine st_yes (wanted_none e5.2.2) e5.1 (ex_neq e5.2.1 ?_ (put_same (by simp only [put_size]; omega)) (h1 _ _) h2) ?_
  · exact (put_other (by omega)).trans ((put_other (by omega)).trans (put_same (by simp only [put_size]; omega)))
  · exact h _ (((((F.put (d := p) h4).put (d := p + 1) (by omega)).put (d := p + 2) (by omega)).put (d := p + 3) (by omega)).put (d := p + 4) (by omega)) (put_same (by simp only [put_size]; omega))

set_option maxHeartbeats 1600000 in
theorem or_group {N p n j g : Nat} {r r2 : Bool} {T : TypeId} {u v : Value} {o1 o2 o3 o4 o5 o6 o7 : Oper} (F : Fr A N n) (hp : A.eval (.tmp p) = .bool r) (h4 : 3 < p) (hN : p + 7 < N)
    (e1 : o1.dst = some (p + 1) ∧ o1.op = .move (.tmp p) ∧ o1.guard = none)
    (e2 : o2.dst = some (p + 2) ∧ o2.op = .fieldAddr 43 (.tmp 2) j ∧ o2.guard = some (g, false)) (e3 : o3.dst = some (p + 3) ∧ o3.op = .load T (.tmp (p + 2)) ∧ o3.guard = some (g, false))
    (e4 : o4.dst = some (p + 4) ∧ o4.op = .fieldAddr 43 (.tmp 3) j ∧ o4.guard = some (g, false)) (e5 : o5.dst = some (p + 5) ∧ o5.op = .load T (.tmp (p + 4)) ∧ o5.guard = some (g, false))
    (e6 : o6.dst = some (p + 6) ∧ o6.op = .binOp .neq T (.tmp (p + 3)) (.tmp (p + 5)) T ∧ o6.guard = some (g, false))
    (e7 : o7.dst = some (p + 7) ∧ o7.op = .pick (.tmp (p + 1)) (.const (.bool true)) (.tmp (p + 6)) ∧ o7.guard = none)
    (hg : (ops[g]?).bind (·.dst) = some (p + 1))
    (hj : j < 25) (hT : (isAgg T).run Tryz.prog w = .ok false w) (cu : w.cell? ⟨n, j, none⟩ = some u) (cv : w.cell? ⟨n + 1, j, none⟩ = some v)
    (h1 : ∀ x y, (eqGuard .neq T x y u v).run Tryz.prog w = .ok () w) (h2 : (binOp .neq T u v).run Tryz.prog w = .ok (.bool r2) w)
    (h : ∀ A', Fr A' N n → A'.eval (.tmp (p + 7)) = .bool (r || r2) → wpList Tryz.prog ops Q rest A' w) : wpList Tryz.prog ops Q (o1 :: o2 :: o3 :: o4 :: o5 :: o6 :: o7 :: rest) A w := by
  have hs := F.size
  have F1 := F.put (d := p + 1) (v := .bool r) (by omega)
  refine st_yes (v := .bool r) (wanted_none e1.2.2) e1.1 (by rw [BigFrame.run_move _ e1.2.1, hp]) ?_
  have hv : (A.put (some (p + 1)) (.bool r)).eval (.tmp (p + 1)) = .bool r := put_same (by omega)
  generalize A.put (some (p + 1)) (.bool r) = B at *
  have hb := F1.size
  cases r
  · refine st_yes (by rw [wanted_some e2.2.2 hg (by omega) hv]; rfl) e2.1 (ex_field e2.2.1 hj F1.x) ?_
    have k1 : ∀ x, (B.put (some (p + 2)) x).eval (.tmp (p + 1)) = .bool false := fun x => (put_other (by omega)).trans hv
    refine st_yes (by rw [wanted_some e3.2.2 hg (by simp only [put_size]; omega) (k1 _)]; rfl) e3.1 (ex_load e3.2.1 hT (put_same (by omega)) cu) ?_
    have k2 : ∀ x y, ((B.put (some (p + 2)) x).put (some (p + 3)) y).eval (.tmp (p + 1)) = .bool false := fun x y => (put_other (by omega)).trans (k1 x)
    refine st_yes (by rw [wanted_some e4.2.2 hg (by simp only [put_size]; omega) (k2 _ _)]; rfl) e4.1 (ex_field e4.2.1 hj ((F1.put (d := p + 2) (by omega)).put (d := p + 3) (by omega)).y) ?_
    have k3 : ∀ x y z, (((B.put (some (p + 2)) x).put (some (p + 3)) y).put (some (p + 4)) z).eval (.tmp (p + 1)) = .bool false := fun x y z => (put_other (by omega)).trans (k2 x y)
    refine st_yes (by rw [wanted_some e5.2.2 hg (by simp only [put_size]; omega) (k3 _ _ _)]; rfl) e5.1 (ex_load e5.2.1 hT (put_same (by simp only [put_size]; omega)) cv) ?_
    have k4 : ∀ x y z t, ((((B.put (some (p + 2)) x).put (some (p + 3)) y).put (some (p + 4)) z).put (some (p + 5)) t).eval (.tmp (p + 1)) = .bool false := fun x y z t => (put_other (by omega)).trans (k3 x y z)
    refine st_yes (by rw [wanted_some e6.2.2 hg (by simp only [put_size]; omega) (k4 _ _ _ _)]; rfl) e6.1 (ex_neq e6.2.1 ?_ (put_same (by simp only [put_size]; omega)) (h1 _ _) h2) ?_
    · exact (put_other (by omega)).trans ((put_other (by omega)).trans (put_same (by simp only [put_size]; omega)))
    · refine st_yes (v := .bool r2) (wanted_none e7.2.2) e7.1 ?_ ?_
      · refine (ex_pick e7.2.1 (r := false) ((put_other (by omega)).trans (k4 _ _ _ _))).trans ?_
        rw [if_neg (by decide)]
        exact congrArg (fun v => Result.ok (Next.value v) w) (put_same (by simp only [put_size]; omega))
      · exact h _ ((((((F1.put (d := p + 2) (by omega)).put (d := p + 3) (by omega)).put (d := p + 4) (by omega)).put (d := p + 5) (by omega)).put (d := p + 6) (by omega)).put (d := p + 7) (by omega)) ((put_same (by simp only [put_size]; omega)).trans (by simp))
  · refine st_no (by rw [wanted_some e2.2.2 hg (by omega) hv]; rfl) e2.1 ?_
    have k1 : ∀ x, (B.put (some (p + 2)) x).eval (.tmp (p + 1)) = .bool true := fun x => (put_other (by omega)).trans hv
    refine st_no (by rw [wanted_some e3.2.2 hg (by simp only [put_size]; omega) (k1 _)]; rfl) e3.1 ?_
    have k2 : ∀ x y, ((B.put (some (p + 2)) x).put (some (p + 3)) y).eval (.tmp (p + 1)) = .bool true := fun x y => (put_other (by omega)).trans (k1 x)
    refine st_no (by rw [wanted_some e4.2.2 hg (by simp only [put_size]; omega) (k2 _ _)]; rfl) e4.1 ?_
    have k3 : ∀ x y z, (((B.put (some (p + 2)) x).put (some (p + 3)) y).put (some (p + 4)) z).eval (.tmp (p + 1)) = .bool true := fun x y z => (put_other (by omega)).trans (k2 x y)
    refine st_no (by rw [wanted_some e5.2.2 hg (by simp only [put_size]; omega) (k3 _ _ _)]; rfl) e5.1 ?_
    have k4 : ∀ x y z t, ((((B.put (some (p + 2)) x).put (some (p + 3)) y).put (some (p + 4)) z).put (some (p + 5)) t).eval (.tmp (p + 1)) = .bool true := fun x y z t => (put_other (by omega)).trans (k3 x y z)
    refine st_no (by rw [wanted_some e6.2.2 hg (by simp only [put_size]; omega) (k4 _ _ _ _)]; rfl) e6.1 ?_
    refine st_yes (v := .bool true) (wanted_none e7.2.2) e7.1 ?_ ?_
    · refine (ex_pick e7.2.1 (r := true) ((put_other (by omega)).trans (k4 _ _ _ _))).trans ?_
      rw [if_pos rfl]; rfl
    · exact h _ ((((((F1.put (d := p + 2) (by omega)).put (d := p + 3) (by omega)).put (d := p + 4) (by omega)).put (d := p + 5) (by omega)).put (d := p + 6) (by omega)).put (d := p + 7) (by omega)) ((put_same (by simp only [put_size]; omega)).trans (by simp))
end
end Go.Proofs.YtpkmpinbpfblfaaGreatDoor.Or
namespace Go.Proofs.YtpkmpinbpfblfaaGreatDoor.Cnt
open Go.ChangeShapes Go.WideShapes Go.ChangeAt Go.RowKit
open Go.Proofs.YtpkmpinbpfblfaaGreatDoor.Ms
open Go.Proofs.YtpkmpinbpfblfaaGreatDoor.Box
open Go.Proofs.YtpkmpinbpfblfaaGreatDoor.Same
set_option linter.unusedVariables false
set_option maxRecDepth 100000

/-- The bytes of Subs. -/
def bytesN (l : List El) : Nat := (l.map fun x => 2 + x.1.size).sum
theorem bytes_take (l : List El) (k : Nat) (h : k < l.length) : bytesN (l.take (k + 1)) = bytesN (l.take k) + (2 + l[k].1.size) := by
  unfold bytesN
  rw [List.take_succ_eq_append_getElem h, List.map_append, List.sum_append]
  simp only [List.map_cons, List.map_nil, List.sum_cons, List.sum_nil, Nat.add_zero]
theorem bytes_le (l : List El) (k : Nat) : bytesN (l.take k) ≤ bytesN l := by
  conv => rhs; rw [← List.take_append_drop k l]
  unfold bytesN
  rw [List.map_append, List.sum_append]
  omega
theorem int_eq {k : IntKind} {a b : Int} (h : a = b) : Ending.returned (.int k a) = .returned (.int k b) := by rw [h]

set_option maxHeartbeats 1600000 in
theorem bytes_any (a : Option Addr) (c : Nat) (l : List El) (w : World) (hl : SRow w a l) (ln : l.length ≤ 1048576) (lb : bytesN l ≤ 1099511627776) :
    Calls Tryz.prog 67 #[.slice a l.length c] w fun e w' => e = .returned (.int .i64 (bytesN l : Nat)) ∧ Below w.heap.size w w' := by
  have LB := Lib.hid lb
  clear lb
  go_enter Tryz.func67, Tryz.ntmps67
  go_wp2
  go_loopw [3, 8] (fun n i wr => ∃ k : Nat, k ≤ l.length ∧ i = .int .i64 k ∧ n = .int .i64 (bytesN (l.take k) : Nat) ∧ Hid (Below w.heap.size w wr)) (fun _ i _ => l.length - (intOf i).toNat)
  case atStart => exact ⟨0, Nat.zero_le _, rfl, rfl, Lib.hid (Below.refl _ _)⟩
  case round =>
    obtain ⟨k, hk, rfl, rfl, HB⟩ := hrel
    by_cases hlt : k < l.length
    · obtain ⟨p, rfl, hp, c0, c1⟩ := (hl.below HB.out) k hlt
      have HT := Lib.hid (bytes_take l k hlt)
      have HM := Lib.hid (bytes_le l (k + 1))
      have hs : l[k].1.size ≤ 1099511627776 ∧ bytesN (l.take k) ≤ 1099511627776 := by have := HT.out; have := HM.out; have := LB.out; omega
      obtain ⟨hs, hs2⟩ := hs
      clear hl
      rw [add_one] at c1
      generalize l[k] = u at *
      generalize hq : bytesN (l.take k) = q at *
      clear hq
      go_wp2
      go_roundw
      case rel => exact ⟨k + 1, hlt, by go_num, by rw [HT.out]; congr 1, Lib.hid ((HB.out.alloc HB.out.size _))⟩
      case measure => simp [intOf]; omega
    · obtain rfl : k = l.length := by omega
      go_wp2
      go_ret
      exact ⟨int_eq (by rw [List.take_length]), HB.out⟩
set_option maxHeartbeats 1600000 in
theorem rbytes_any (a : Option Addr) (c : Nat) (l : List El) (w : World) (hl : SRow w a l) (ln : l.length ≤ 1048576) (lb : bytesN l ≤ 1099511627776) :
    Calls Tryz.prog 86 #[.slice a l.length c] w fun e w' => e = .returned (.int .i64 (bytesN l : Nat)) ∧ Below w.heap.size w w' := by
  have LB := Lib.hid lb
  clear lb
  go_enter Tryz.func86, Tryz.ntmps86
  go_wp2
  go_loopw [3, 4] (fun n i wr => ∃ k : Nat, k ≤ l.length ∧ i = .int .i64 k ∧ n = .int .i64 (bytesN (l.take k) : Nat) ∧ Hid (Below w.heap.size w wr)) (fun _ i _ => l.length - (intOf i).toNat)
  case atStart => exact ⟨0, Nat.zero_le _, rfl, rfl, Lib.hid (Below.refl _ _)⟩
  case round =>
    obtain ⟨k, hk, rfl, rfl, HB⟩ := hrel
    by_cases hlt : k < l.length
    · obtain ⟨p, rfl, hp, c0, c1⟩ := (hl.below HB.out) k hlt
      have HT := Lib.hid (bytes_take l k hlt)
      have HM := Lib.hid (bytes_le l (k + 1))
      have hs : l[k].1.size ≤ 1099511627776 ∧ bytesN (l.take k) ≤ 1099511627776 := by have := HT.out; have := HM.out; have := LB.out; omega
      obtain ⟨hs, hs2⟩ := hs
      clear hl
      rw [add_one] at c1
      generalize l[k] = u at *
      generalize hq : bytesN (l.take k) = q at *
      clear hq
      go_wp2
      go_roundw
      case rel => exact ⟨k + 1, hlt, by go_num, by rw [HT.out]; congr 1; push_cast; omega, HB⟩
      case measure => simp [intOf]; omega
    · obtain rfl : k = l.length := by omega
      go_wp2
      go_ret
      exact ⟨int_eq (by rw [List.take_length]), HB.out⟩
/-- May the Subs be? -/
def mayB (l : List El) (lo hi : Int) : Bool := l.all fun x => decide (lo ≤ x.2) && (decide (x.2 ≤ hi) && decide (x.1.size ≤ 255))
end Go.Proofs.YtpkmpinbpfblfaaGreatDoor.Cnt
namespace Go.Proofs.YtpkmpinbpfblfaaGreatDoor.S1
open Go.ChangeShapes Go.WideShapes Go.ChangeAt Go.RowKit
open Go.Proofs.YtpkmpinbpfblfaaGreatDoor.Ms (El)
open Go.Proofs.YtpkmpinbpfblfaaGreatDoor.Cnt (bytesN mayB)
open Go.Proofs.YtpkmpinbpfblfaaGreatDoor.F1 (enc1 encT ok1 okT outT placed cut1 encT_nil encT_cons encT_snoc enc1_len okT_nil okT_snoc okT_cons out_yes out_no out_cases size_of len_le placed_len)
set_option linter.unusedVariables false
set_option maxRecDepth 100000
set_option maxRecDepth 100000

/-- Is it kept? -/
def keepB (x : El) : Bool := decide (2 ≤ x.2) && decide (x.2 ≤ 127)
/-- Those that are kept. -/
def keep (l : List El) : List El := l.filter keepB
/-- Need none be known? -/
def knownB (l : List El) : Bool := l.all fun x => decide (x.2 ≤ 127)
/-- May the Subs be? -/
def okS (l : List El) : Bool := mayB l 2 127 && decide (bytesN l ≤ 200)
/-- Their bytes; none. -/
def putS (l : List El) : ByteArray := if okS l then ⟨(encT l).toArray⟩ else ⟨#[]⟩
theorem putS_yes {l : List El} (h : okS l = true) : putS l = ⟨(encT l).toArray⟩ := by unfold putS; rw [if_pos h]
theorem putS_no {l : List El} (h : okS l = false) : putS l = ⟨#[]⟩ := by unfold putS; rw [if_neg (by rw [h]; exact Bool.false_ne_true)]

theorem may_mem {l : List El} {lo hi : Int} (h : mayB l lo hi = true) : ∀ x ∈ l, lo ≤ x.2 ∧ x.2 ≤ hi ∧ x.1.size ≤ 255 := by
  unfold mayB at h
  rw [List.all_eq_true] at h
  intro x hx
  simpa using h x hx
theorem may_of {l : List El} {lo hi : Int} (h : ∀ x ∈ l, lo ≤ x.2 ∧ x.2 ≤ hi ∧ x.1.size ≤ 255) : mayB l lo hi = true := by
  unfold mayB
  rw [List.all_eq_true]
  intro x hx
  simpa using h x hx
theorem okS_may {l : List El} (h : okS l = true) : mayB l 2 127 = true := by unfold okS at h; rw [Bool.and_eq_true] at h; exact h.1
theorem okS_size {l : List El} (h : okS l = true) : bytesN l ≤ 200 := by unfold okS at h; rw [Bool.and_eq_true, decide_eq_true_eq] at h; exact h.2
theorem okS_of {l : List El} (h : mayB l 2 127 = true) (h2 : bytesN l ≤ 200) : okS l = true := by unfold okS; rw [h, decide_eq_true h2]; rfl
theorem bytesN_cons (x : El) (l : List El) : bytesN (x :: l) = 2 + x.1.size + bytesN l := by simp [bytesN]
theorem bytesN_len (l : List El) : 2 * l.length ≤ bytesN l := by
  induction l with
  | nil => exact Nat.le_refl _
  | cons x l ih => rw [bytesN_cons, List.length_cons]; omega
theorem keep_may {l : List El} (h : okT l) : mayB (keep l) 2 127 = true := may_of fun x hx => by
  obtain ⟨h1, h2⟩ := List.mem_filter.1 hx
  unfold keepB at h2
  rw [Bool.and_eq_true, decide_eq_true_eq, decide_eq_true_eq] at h2
  exact ⟨h2.1, h2.2, (h x h1).2.2.1⟩
theorem keep_append (a b : List El) : keep (a ++ b) = keep a ++ keep b := List.filter_append ..
theorem keep_yes {x : El} (h : keepB x = true) (l : List El) : keep (l ++ [x]) = keep l ++ [x] := by rw [keep_append]; unfold keep; simp [h]
theorem keep_no {x : El} (h : keepB x = false) (l : List El) : keep (l ++ [x]) = keep l := by rw [keep_append]; unfold keep; simp [h]
theorem known_append (a b : List El) : knownB (a ++ b) = (knownB a && knownB b) := List.all_append ..
theorem known_one (x : El) : knownB [x] = decide (x.2 ≤ 127) := by unfold knownB; simp
theorem known_snoc (l : List El) (x : El) : knownB (l ++ [x]) = (knownB l && decide (x.2 ≤ 127)) := by rw [known_append, known_one]
theorem enc_len {l : List El} (h : mayB l 2 127 = true) : (encT l).length = bytesN l := by
  have hm := may_mem h
  clear h
  induction l with
  | nil => rfl
  | cons x l ih =>
    have h1 := hm x (by simp)
    rw [encT_cons, List.length_append, enc1_len, if_neg (by omega), ih (fun y hy => hm y (by simp [hy])), bytesN_cons]
theorem keep_size (l : List El) : bytesN (keep l) ≤ (encT l).length := by
  induction l with
  | nil => exact Nat.le_refl _
  | cons x l ih =>
    rw [encT_cons, List.length_append, enc1_len]
    unfold keep at *
    rw [List.filter_cons]
    cases hk : keepB x
    · simp only [Bool.false_eq_true, if_false]
      split <;> omega
    · have : ¬ x.2 = 0 := by unfold keepB at hk; simp at hk; omega
      rw [if_pos rfl, bytesN_cons, if_neg this]
      omega
theorem keep_len (l : List El) : (keep l).length ≤ l.length := List.length_filter_le ..
theorem okS_mem {l : List El} (h : okS l = true) : ∀ x ∈ l, x.1.size ≤ 1099511627776 := fun x hx => by
  have := (may_mem (okS_may h) x hx).2.2
  omega
theorem okS_len {l : List El} (h : okS l = true) : l.length ≤ 100 := by
  have := okS_size h
  have := bytesN_len l
  omega
theorem putS_size {l : List El} (h : okS l = true) : (putS l).size = bytesN l := by
  rw [putS_yes h, ← enc_len (okS_may h)]
  exact List.size_toArray ..
theorem putS_le (l : List El) : (putS l).size ≤ 200 := by
  cases h : okS l
  · rw [putS_no h]; exact Nat.zero_le _
  · rw [putS_size h]; exact okS_size h

/-- Those that are kept, whether none must be known, and the error. -/
noncomputable def outS (s : ByteArray) : List El × Bool × Int :=
  if (outT 0 s).2.2 = 0 then (if bytesN (keep ((outT 0 s).1.map Prod.snd)) ≤ 200 then (keep ((outT 0 s).1.map Prod.snd), knownB ((outT 0 s).1.map Prod.snd), 0) else ([], false, 10)) else ([], false, (outT 0 s).2.2)
theorem placed_snd : ∀ (l : List El) (p : Int), (placed p l).map Prod.snd = l
  | [], _ => rfl
  | x :: l, p => by rw [placed, List.map_cons, placed_snd]
theorem outS_of {s : ByteArray} {l : List El} (h : outT 0 s = (placed 0 l, 0, 0)) : outS s = if bytesN (keep l) ≤ 200 then (keep l, knownB l, 0) else ([], false, 10) := by
  unfold outS
  rw [h, placed_snd, if_pos rfl]
theorem outS_bad {s : ByteArray} {p : Int} (h : outT 0 s = ([], p, 2)) : outS s = ([], false, 2) := by
  unfold outS
  rw [h, if_neg (show ¬ (2 : Int) = 0 by decide)]
theorem outS_yes {s : ByteArray} {l : List El} (ho : okT l) (hs : s.data.toList = encT l) (hb : bytesN (keep l) ≤ 200) : outS s = (keep l, knownB l, 0) := by
  rw [outS_of (out_yes ho hs), if_pos hb]
theorem outS_cases (s : ByteArray) : (∃ l, okT l ∧ s.data.toList = encT l ∧ outT 0 s = (placed 0 l, 0, 0) ∧ ((bytesN (keep l) ≤ 200 ∧ outS s = (keep l, knownB l, 0)) ∨ (200 < bytesN (keep l) ∧ outS s = ([], false, 10)))) ∨
    ∃ p, outT 0 s = ([], p, 2) ∧ outS s = ([], false, 2) := by
  rcases out_cases 0 s with ⟨l, ho, hs, e⟩ | ⟨l, r, _, _, _, _, e⟩
  · refine .inl ⟨l, ho, hs, e, ?_⟩
    by_cases hb : bytesN (keep l) ≤ 200
    · exact .inl ⟨hb, outS_yes ho hs hb⟩
    · exact .inr ⟨by omega, by rw [outS_of e, if_neg hb]⟩
  · exact .inr ⟨_, e, outS_bad e⟩
/-- What is told of bytes may be, and has no more of them. -/
theorem outS_ok (s : ByteArray) : okS (outS s).1 = true ∧ (putS (outS s).1).size ≤ s.size := by
  rcases outS_cases s with ⟨l, ho, hs, _, ⟨hb, e⟩ | ⟨_, e⟩⟩ | ⟨p, _, e⟩
  · rw [e]
    have hk := okS_of (keep_may ho) hb
    refine ⟨hk, ?_⟩
    rw [putS_size hk, size_of hs]
    exact keep_size l
  · rw [e]; exact ⟨rfl, by rw [putS_yes rfl]; exact Nat.zero_le _⟩
  · rw [e]; exact ⟨rfl, by rw [putS_yes rfl]; exact Nat.zero_le _⟩
end Go.Proofs.YtpkmpinbpfblfaaGreatDoor.S1
namespace Go.Proofs.YtpkmpinbpfblfaaGreatDoor.Lk
open Go.ChangeShapes Go.WideShapes Go.ChangeAt Go.RowKit
open Go.Proofs.YtpkmpinbpfblfaaGreatDoor.Nu (text_eq)
set_option linter.unusedVariables false
set_option maxRecDepth 100000
set_option maxRecDepth 100000

theorem below_drewN {B : Nat} {a w : World} (h : Below B a w) (n : Nat) : Below B a (w.drewN n) := ⟨h.os, h.tape, h.output, h.size, h.block⟩
theorem bool_eq {a b : Bool} (h : a = b) : Ending.returned (.bool a) = .returned (.bool b) := by rw [h]
def lkH : ByteArray := ⟨#[254, 128, 0, 0, 0, 0, 0, 0]⟩
def lkB (s : ByteArray) : Bool := (s.extract 0 8).toList == [254, 128, 0, 0, 0, 0, 0, 0]
def link (s : ByteArray) : Bool := decide (s.size = 16) && lkB s
theorem link_yes {s : ByteArray} (h : s.size = 16) : link s = lkB s := by unfold link; rw [decide_eq_true h]; rfl
theorem link_no {s : ByteArray} (h : s.size ≠ 16) : link s = false := by unfold link; rw [decide_eq_false h]; rfl
/-- The short form, the long one. -/
def shA (a : ByteArray) : ByteArray := if link a then a.extract 8 a.size else ⟨#[]⟩
def lgO (a : ByteArray) : Bool := decide (a.size = 8)
def lgA (a : ByteArray) : ByteArray := if a.size = 8 then lkH ++ a else ⟨#[]⟩
theorem link_size {a : ByteArray} (h : link a = true) : a.size = 16 := by unfold link at h; simp at h; exact h.1
theorem link_head {a : ByteArray} (h : link a = true) : a.extract 0 8 = lkH := by
  unfold link lkB at h
  simp only [Bool.and_eq_true, beq_iff_eq] at h
  refine text_eq ?_
  rw [← ByteArray.toList_eq, h.2]
  rfl
theorem sh_yes {a : ByteArray} (h : link a = true) : shA a = a.extract 8 a.size := by unfold shA; rw [if_pos h]
theorem sh_size {a : ByteArray} (h : link a = true) : (shA a).size = 8 := by
  have := link_size h
  rw [sh_yes h]; simp; omega
theorem lg_sh {a : ByteArray} (h : link a = true) : lgA (shA a) = a := by
  unfold lgA
  rw [if_pos (sh_size h), sh_yes h, ← link_head h]
  have := link_size h
  rw [ByteArray.extract_append_extract]
  refine text_eq ?_
  simp
theorem link_lg {s : ByteArray} (h : s.size = 8) : link (lgA s) = true ∧ shA (lgA s) = s := by
  have e : lgA s = lkH ++ s := by unfold lgA; rw [if_pos h]
  have hz : (lkH ++ s).size = 16 := by rw [ByteArray.size_append, h]; rfl
  have h1 : link (lkH ++ s) = true := by
    rw [link_yes hz]
    unfold lkB
    rw [show (lkH ++ s).extract 0 8 = lkH from ByteArray.extract_append_eq_left rfl]
    rw [ByteArray.toList_eq]
    rfl
  rw [e]
  refine ⟨h1, ?_⟩
  rw [sh_yes h1]
  exact ByteArray.extract_append_eq_right rfl (by rw [ByteArray.size_append])

/- What the library's HasPrefix answers of sixteen bytes. -/
theorem lite_any (s : ByteArray) (h : s.size = 16) (w : World) :
    Calls Tryz.prog 115 #[.string s, .string ⟨#[254, 128, 0, 0, 0, 0, 0, 0]⟩] w fun e w' => e = .returned (.bool (lkB s)) ∧ w' = w := by
  unfold lkB
  go_enter Tryz.func115, Tryz.ntmps115
  go_wp2
  go_ret
  exact ⟨rfl, rfl⟩
theorem pre_any (s : ByteArray) (h : s.size = 16) (w : World) :
    Calls Tryz.prog 114 #[.string s, .string ⟨#[254, 128, 0, 0, 0, 0, 0, 0]⟩] w fun e w' => e = .returned (.bool (lkB s)) ∧ w' = w := by
  have P1 := Lib.hid (fun w => lite_any s h w)
  go_enter Tryz.func114, Tryz.ntmps114
  go_wp2_with fail
  refine (P1.out _).mono ?_
  rintro e w' ⟨rfl, rfl⟩
  go_wp2
  go_ret
  exact ⟨rfl, rfl⟩
theorem family_yes (s : ByteArray) (h : s.size = 16) (w : World) :
    Calls Tryz.prog 113 #[.string s] w fun e w' => e = .returned (.int .i64 1) ∧ w' = w := by
  have e0 : ((s.size : Int) == 4) = false := by rw [beq_eq_false_iff_ne]; omega
  have e1 : ((s.size : Int) == 16) = true := by rw [beq_iff_eq]; omega
  clear h
  go_enter Tryz.func113, Tryz.ntmps113
  go_wp2
  go_ret
  exact ⟨rfl, rfl⟩
theorem family_no (s : ByteArray) (h : s.size ≠ 16) (w : World) :
    Calls Tryz.prog 113 #[.string s] w fun e w' => (e = .returned (.int .i64 0) ∨ e = .returned (.int .i64 (-1))) ∧ w' = w := by
  have e1 : ((s.size : Int) == 16) = false := by rw [beq_eq_false_iff_ne]; omega
  by_cases h4 : s.size = 4
  · have e0 : ((s.size : Int) == 4) = true := by rw [beq_iff_eq]; omega
    clear h h4
    go_enter Tryz.func113, Tryz.ntmps113
    go_wp2
    go_ret
    exact ⟨.inl rfl, rfl⟩
  · have e0 : ((s.size : Int) == 4) = false := by rw [beq_eq_false_iff_ne]; omega
    clear h h4
    go_enter Tryz.func113, Tryz.ntmps113
    go_wp2
    go_ret
    exact ⟨.inr rfl, rfl⟩
theorem link_any (s : ByteArray) (w : World) :
    Calls Tryz.prog 112 #[.string s] w fun e w' => e = .returned (.bool (link s)) ∧ w' = w := by
  by_cases h : s.size = 16
  · rw [link_yes h]
    have P1 := Lib.hid (fun w => family_yes s h w)
    have P2 := Lib.hid (fun w => pre_any s h w)
    clear h
    generalize lkB s = x at *
    go_enter Tryz.func112, Tryz.ntmps112
    go_wp2_with fail
    refine (P1.out _).mono ?_
    rintro e w' ⟨rfl, rfl⟩
    go_wp2_with fail
    refine (P2.out _).mono ?_
    rintro e w' ⟨rfl, rfl⟩
    go_wp2
    go_ret
    exact ⟨rfl, rfl⟩
  · rw [link_no h]
    have P1 := Lib.hid (fun w => family_no s h w)
    clear h
    go_enter Tryz.func112, Tryz.ntmps112
    go_wp2_with fail
    refine (P1.out _).mono ?_
    rintro e w' ⟨rfl | rfl, rfl⟩
    all_goals
      go_wp2
      go_ret
      exact ⟨rfl, rfl⟩
theorem rl_any (w : World) : Calls Tryz.prog 33 #[] w fun e w' => e = .returned (.string lkH) ∧ w' = w := by
  go_enter Tryz.func33, Tryz.ntmps33
  go_wp2
  go_ret
  exact ⟨rfl, rfl⟩
theorem lkB_eq (s : ByteArray) : ((s.extract 0 8).toList == lkH.toList) = lkB s := by
  unfold lkB
  rw [show lkH.toList = [254, 128, 0, 0, 0, 0, 0, 0] by rw [ByteArray.toList_eq]; rfl]
theorem rlink_any (s : ByteArray) (w : World) :
    Calls Tryz.prog 19 #[.string s] w fun e w' => e = .returned (.bool (link s)) ∧ ∃ n, w' = w.drewN n := by
  by_cases h6 : s.size = 16
  · have hs : (8 : Int) ≤ (s.size : Int) := by omega
    have e1 : ((s.size : Int) == 16) = true := by rw [beq_iff_eq]; omega
    have HH := Lib.hid (link_yes h6)
    have HP := Lib.hid (lkB_eq s)
    clear h6
    go_enter Tryz.func19, Tryz.ntmps19
    go_wp2
    go_quiet ((go_at_call 33; exact Calls.quiet_of_same (rl_any _)))
    go_wp2
    go_ret
    refine ⟨bool_eq ?_, _, rfl⟩
    rw [HP.out]
    exact HH.out.symm
  · have e : link s = false := link_no h6
    have e1 : ((s.size : Int) == 16) = false := by rw [beq_eq_false_iff_ne]; omega
    rw [e]
    clear h6 e
    go_enter Tryz.func19, Tryz.ntmps19
    go_wp2
    go_quiet ((go_at_call 33; exact Calls.quiet_of_same (rl_any _)))
    go_wp2
    go_ret
    exact ⟨rfl, _, rfl⟩
theorem rlink_bel (s : ByteArray) (w : World) :
    Calls Tryz.prog 19 #[.string s] w fun e w' => e = .returned (.bool (link s)) ∧ Below w.heap.size w w' := by
  refine (rlink_any s w).mono ?_
  rintro e w' ⟨rfl, n, rfl⟩
  exact ⟨rfl, below_drewN (Below.refl _ _) n⟩
theorem short_any (a : ByteArray) (w : World) :
    Calls Tryz.prog 109 #[.string a] w fun e w' => e = .returned (.tuple #[.string (shA a), .bool (link a)]) ∧ w = w' := by
  have P1 := Lib.hid (fun w => link_any a w)
  cases hl : link a with
  | false =>
    have e : shA a = ⟨#[]⟩ := by unfold shA; rw [hl]; rfl
    rw [e]
    rw [hl] at P1
    clear hl e
    go_enter Tryz.func109, Tryz.ntmps109
    go_wp2_with fail
    refine (P1.out _).mono ?_
    rintro e w' ⟨rfl, rfl⟩
    go_wp2
    go_ret2
    exact ⟨rfl, rfl⟩
  | true =>
    have e : shA a = a.extract 8 a.size := sh_yes hl
    have hs : (8 : Int) ≤ (a.size : Int) := by have := link_size hl; omega
    rw [e]
    rw [hl] at P1
    clear hl e
    go_enter Tryz.func109, Tryz.ntmps109
    go_wp2_with fail
    refine (P1.out _).mono ?_
    rintro e w' ⟨rfl, rfl⟩
    go_wp2
    go_ret2
    exact ⟨rfl, rfl⟩
theorem long_any (a : ByteArray) (w : World) :
    Calls Tryz.prog 82 #[.string a] w fun e w' => e = .returned (.tuple #[.string (lgA a), .bool (lgO a)]) ∧ w = w' := by
  by_cases h : a.size = 8
  · have e1 : lgA a = lkH ++ a := if_pos h
    have e2 : lgO a = true := decide_eq_true h
    have hne : ((a.size : Int) != 8) = false := by rw [h]; rfl
    rw [e1, e2]
    clear e1 e2
    go_enter Tryz.func82, Tryz.ntmps82
    go_wp2
    go_ret2
    exact ⟨rfl, rfl⟩
  · have e1 : lgA a = ⟨#[]⟩ := if_neg h
    have e2 : lgO a = false := decide_eq_false h
    have hne : ((a.size : Int) != 8) = true := by rw [bne_iff_ne]; omega
    rw [e1, e2]
    clear e1 e2
    go_enter Tryz.func82, Tryz.ntmps82
    go_wp2
    go_ret2
    exact ⟨rfl, rfl⟩
theorem rlong_any (a : ByteArray) (w : World) :
    Calls Tryz.prog 52 #[.string a] w fun e w' => e = .returned (.tuple #[.string (lgA a), .bool (lgO a)]) ∧ Below w.heap.size w w' := by
  by_cases h : a.size = 8
  · have e1 : lgA a = lkH ++ a := if_pos h
    have e2 : lgO a = true := decide_eq_true h
    have hne : ((a.size : Int) != 8) = false := by rw [h]; rfl
    rw [e1, e2]
    clear e1 e2
    go_enter Tryz.func52, Tryz.ntmps52
    go_wp2
    go_ret2
    exact ⟨rfl, Below.refl _ _⟩
  · have e1 : lgA a = ⟨#[]⟩ := if_neg h
    have e2 : lgO a = false := decide_eq_false h
    have hne : ((a.size : Int) != 8) = true := by rw [bne_iff_ne]; omega
    rw [e1, e2]
    clear e1 e2
    go_enter Tryz.func52, Tryz.ntmps52
    go_wp2
    go_ret2
    exact ⟨rfl, Below.refl _ _⟩
end Go.Proofs.YtpkmpinbpfblfaaGreatDoor.Lk
namespace Go.Proofs.YtpkmpinbpfblfaaGreatDoor.RSame
open Go.ChangeShapes Go.WideShapes Go.ChangeAt Go.RowKit
open Go.Proofs.YtpkmpinbpfblfaaGreatDoor.Ms
open Go.Proofs.YtpkmpinbpfblfaaGreatDoor.Box
open Go.Proofs.YtpkmpinbpfblfaaGreatDoor.Eq
open Go.Proofs.YtpkmpinbpfblfaaGreatDoor.Same
open Go.Proofs.YtpkmpinbpfblfaaGreatDoor.SameP
open Go.Proofs.YtpkmpinbpfblfaaGreatDoor.Hs
open Go.Proofs.YtpkmpinbpfblfaaGreatDoor.Or
set_option linter.unusedVariables false
set_option maxRecDepth 100000

theorem ni (a b : Int) (w : World) : (∀ x y, (eqGuard .neq 3 x y (.int .i64 a) (.int .i64 b)).run Tryz.prog w = .ok () w) ∧ (binOp .neq 3 (.int .i64 a) (.int .i64 b)).run Tryz.prog w = .ok (.bool (a != b)) w :=
  ⟨fun x y => by rw [eqGuard_at_int]; rfl, by rw [binOp_neq]; rfl⟩
theorem ns (a b : ByteArray) (w : World) : (∀ x y, (eqGuard .neq 9 x y (.string a) (.string b)).run Tryz.prog w = .ok () w) ∧ (binOp .neq 9 (.string a) (.string b)).run Tryz.prog w = .ok (.bool (!(a.toList == b.toList))) w :=
  ⟨fun x y => by rw [eqGuard_at_string]; rfl, by rw [binOp_string_neq]; rfl⟩
theorem agg_sl (w : World) : (isAgg 40).run Tryz.prog w = .ok false w ∧ (isAgg 41).run Tryz.prog w = .ok false w := by constructor <;> go_simp
theorem with_frame {c : Code} {Q : Exit → Act → World → Prop} {A : Act} {w : World} {n : Nat} (h : ∀ B, Fr B 174 n → c.wp Tryz.prog Q B w) (F : Fr A 174 n) : c.wp Tryz.prog Q A w := h A F
theorem ret_slot4 {A : Act} {n : Nat} {w w0 : World} {v r : Bool} {fn : Func} (hfn : fn.results = #[.tmp 4]) (F : Fr A 174 n) (hv : A.eval (.tmp 4) = .bool v) (hr : v = r) (hb : Below w0.heap.size w0 w) :
    bodyPost Tryz.prog fn (fun e w' => e = .returned (.bool r) ∧ Below w0.heap.size w0 w') .ret A w :=
  bodyPost_ret (v := .bool v) ((results_tmp hfn _ _ _).trans (congrArg (fun v => Result.ok v w) hv)) F.defers ⟨bool_eq hr, hb⟩

theorem load_two {ops : Array Oper} {Q : Exit → Act → World → Prop} {A : Act} {w : World} {rest : List Oper} {N q n j : Nat} {T : TypeId} {u v : Value} {o1 o2 o3 o4 : Oper} {gd : Option (Nat × Bool)} (F : Fr A N n) (h4 : 3 < q) (hN : q + 3 < N)
    (e1 : o1.dst = some q ∧ o1.op = .fieldAddr 43 (.tmp 2) j ∧ o1.guard = gd) (e2 : o2.dst = some (q + 1) ∧ o2.op = .load T (.tmp q) ∧ o2.guard = gd)
    (e3 : o3.dst = some (q + 2) ∧ o3.op = .fieldAddr 43 (.tmp 3) j ∧ o3.guard = gd) (e4 : o4.dst = some (q + 3) ∧ o4.op = .load T (.tmp (q + 2)) ∧ o4.guard = gd)
    (hw : ∀ B : Act, B.tmps.size = N → (∀ t : Nat, t < q → B.eval (.tmp t) = A.eval (.tmp t)) → ∀ o : Oper, o.guard = gd → Region.wanted o (yielded ops B.tmps) = true)
    (hj : j < 25) (hT : (isAgg T).run Tryz.prog w = .ok false w) (cu : w.cell? ⟨n, j, none⟩ = some u) (cv : w.cell? ⟨n + 1, j, none⟩ = some v)
    (h : ∀ A', Fr A' N n → A'.eval (.tmp (q + 1)) = u → A'.eval (.tmp (q + 3)) = v → (∀ t : Nat, t < q → A'.eval (.tmp t) = A.eval (.tmp t)) → wpList Tryz.prog ops Q rest A' w) : wpList Tryz.prog ops Q (o1 :: o2 :: o3 :: o4 :: rest) A w := by
  have hs := F.size
  have F1 : ∀ x, Fr (A.put (some q) x) N n := fun x => F.put h4
  have F2 : ∀ x y, Fr ((A.put (some q) x).put (some (q + 1)) y) N n := fun x y => (F1 x).put (by omega)
  have F3 : ∀ x y z, Fr (((A.put (some q) x).put (some (q + 1)) y).put (some (q + 2)) z) N n := fun x y z => (F2 x y).put (by omega)
  have F4 : ∀ x y z t, Fr ((((A.put (some q) x).put (some (q + 1)) y).put (some (q + 2)) z).put (some (q + 3)) t) N n := fun x y z t => (F3 x y z).put (by omega)
  have k1 : ∀ x, ∀ t : Nat, t < q → (A.put (some q) x).eval (.tmp t) = A.eval (.tmp t) := fun x t ht => put_other (by omega)
  have k2 : ∀ x y, ∀ t : Nat, t < q → ((A.put (some q) x).put (some (q + 1)) y).eval (.tmp t) = A.eval (.tmp t) := fun x y t ht => (put_other (by omega)).trans (k1 x t ht)
  have k3 : ∀ x y z, ∀ t : Nat, t < q → (((A.put (some q) x).put (some (q + 1)) y).put (some (q + 2)) z).eval (.tmp t) = A.eval (.tmp t) := fun x y z t ht => (put_other (by omega)).trans (k2 x y t ht)
  have k4 : ∀ x y z r, ∀ t : Nat, t < q → ((((A.put (some q) x).put (some (q + 1)) y).put (some (q + 2)) z).put (some (q + 3)) r).eval (.tmp t) = A.eval (.tmp t) := fun x y z r t ht => (put_other (by omega)).trans (k3 x y z t ht)
  refine st_yes (hw _ hs (fun _ _ => rfl) _ e1.2.2) e1.1 (ex_field e1.2.1 hj F.x) ?_
  refine st_yes (hw _ (F1 _).size (k1 _) _ e2.2.2) e2.1 (ex_load e2.2.1 hT (put_same (by omega)) cu) ?_
  refine st_yes (hw _ (F2 _ _).size (k2 _ _) _ e3.2.2) e3.1 (ex_field e3.2.1 hj (F2 _ _).y) ?_
  refine st_yes (hw _ (F3 _ _ _).size (k3 _ _ _) _ e4.2.2) e4.1 (ex_load e4.2.1 hT (put_same (by simp only [put_size]; omega)) cv) ?_
  exact h _ (F4 _ _ _ _) ((put_other (by omega)).trans ((put_other (by omega)).trans (put_same (by simp only [put_size]; omega)))) (put_same (by simp only [put_size]; omega)) (k4 _ _ _ _)

set_option maxHeartbeats 6400000 in
set_option maxRecDepth 100000 in
theorem rsame_any (a b : M) (w : World) (ha : a.In w) (hb : b.In w) :
    Calls Tryz.prog 16 #[.agg a.cells, .agg b.cells] w fun e w' => e = .returned (.bool (M.same a b)) ∧ Below w.heap.size w w' := by
  have PD := Lib.hid (fun W (h : S2 w a b W) => heldP (S2 w a b) S2.keep (rdests_any a.la b.la a.lc b.lc a.ll b.ll W h.2.2.1.d h.2.2.2.1.d h.2.2.1.dl h.2.2.2.1.dl) h)
  have PS := Lib.hid (fun W (h : S2 w a b W) => heldP (S2 w a b) S2.keep (rsubs_any a.sa b.sa a.sc b.sc a.sl b.sl W h.2.2.1.s h.2.2.2.1.s h.2.2.1.sl h.2.2.2.1.sl) h)
  have H1 : Hid (M.same a b = (!(((((((((((a.kind != b.kind) || (a.cmd != b.cmd)) || (a.ver != b.ver)) || (!(a.auth.toList == b.auth.toList))) || (a.family != b.family)) || (a.ae != b.ae)) || (!(a.pfx.toList == b.pfx.toList))) || (a.plen != b.plen)) || (a.tag != b.tag)) || (!(a.next.toList == b.next.toList))) || (a.metric != b.metric)) && (!((((((((((((!(a.id.toList == b.id.toList)) || (a.seq != b.seq)) || (a.seq2 != b.seq2)) || (a.interval != b.interval)) || (a.flags != b.flags)) || (a.hops != b.hops)) || (a.nonce != b.nonce)) || (a.cost != b.cost)) || (!(a.addr.toList == b.addr.toList))) || (!(a.orig.toList == b.orig.toList))) || (a.typ != b.typ)) || (!(a.data.toList == b.data.toList))) && (decide (a.ll = b.ll) && decide (a.sl = b.sl))))) := Lib.hid (by simp [M.same, M.flatE, Bool.and_assoc, bne, Bool.not_or])
  obtain ⟨ba, bb, bel⟩ := SameP.start w a b
  have h0 : S2 w a b ((w.alloc (.cells a.cells 43)).alloc (.cells b.cells 43)) := ⟨ba, bb, ha.below (balloc (balloc (Below.refl _ _) _) _), hb.below (balloc (balloc (Below.refl _ _) _) _), bel⟩
  clear ba bb bel ha hb
  go_enter Tryz.func16, Tryz.ntmps16
  go_upto_region 1 with fail
  rename_i Q1 K1 hK1 K2 hK2
  generalize (w.alloc (.cells a.cells 43)).alloc (.cells b.cells 43) = V at *
  have C := h0.1.cs
  have D := h0.2.1.cs
  refine with_frame (n := w.heap.size) (fun A F => ?_) ⟨rfl, rfl, rfl, rfl⟩
  refine wp_region_lit ?_
  refine first_group (p := 5) (N := 174) F (by decide) (by decide) ⟨rfl, rfl, rfl⟩ ⟨rfl, rfl, rfl⟩ ⟨rfl, rfl, rfl⟩ ⟨rfl, rfl, rfl⟩ ⟨rfl, rfl, rfl⟩ (by decide) (agg_int _) C.c0 D.c0 (ni a.kind b.kind _).1 (ni a.kind b.kind _).2 (fun A F hp => ?_)
  refine or_group (p := 9) (g := 5) (N := 174) F hp (by decide) (by decide) ⟨rfl, rfl, rfl⟩ ⟨rfl, rfl, rfl⟩ ⟨rfl, rfl, rfl⟩ ⟨rfl, rfl, rfl⟩ ⟨rfl, rfl, rfl⟩ ⟨rfl, rfl, rfl⟩ ⟨rfl, rfl, rfl⟩ rfl (by decide) (agg_int _) C.c1 D.c1 (ni a.cmd b.cmd _).1 (ni a.cmd b.cmd _).2 (fun A F hp => ?_)
  refine or_group (p := 16) (g := 12) (N := 174) F hp (by decide) (by decide) ⟨rfl, rfl, rfl⟩ ⟨rfl, rfl, rfl⟩ ⟨rfl, rfl, rfl⟩ ⟨rfl, rfl, rfl⟩ ⟨rfl, rfl, rfl⟩ ⟨rfl, rfl, rfl⟩ ⟨rfl, rfl, rfl⟩ rfl (by decide) (agg_int _) C.c2 D.c2 (ni a.ver b.ver _).1 (ni a.ver b.ver _).2 (fun A F hp => ?_)
  refine or_group (p := 23) (g := 19) (N := 174) F hp (by decide) (by decide) ⟨rfl, rfl, rfl⟩ ⟨rfl, rfl, rfl⟩ ⟨rfl, rfl, rfl⟩ ⟨rfl, rfl, rfl⟩ ⟨rfl, rfl, rfl⟩ ⟨rfl, rfl, rfl⟩ ⟨rfl, rfl, rfl⟩ rfl (by decide) (agg_str _) C.c3 D.c3 (ns a.auth b.auth _).1 (ns a.auth b.auth _).2 (fun A F hp => ?_)
  refine or_group (p := 30) (g := 26) (N := 174) F hp (by decide) (by decide) ⟨rfl, rfl, rfl⟩ ⟨rfl, rfl, rfl⟩ ⟨rfl, rfl, rfl⟩ ⟨rfl, rfl, rfl⟩ ⟨rfl, rfl, rfl⟩ ⟨rfl, rfl, rfl⟩ ⟨rfl, rfl, rfl⟩ rfl (by decide) (agg_int _) C.c4 D.c4 (ni a.family b.family _).1 (ni a.family b.family _).2 (fun A F hp => ?_)
  refine or_group (p := 37) (g := 33) (N := 174) F hp (by decide) (by decide) ⟨rfl, rfl, rfl⟩ ⟨rfl, rfl, rfl⟩ ⟨rfl, rfl, rfl⟩ ⟨rfl, rfl, rfl⟩ ⟨rfl, rfl, rfl⟩ ⟨rfl, rfl, rfl⟩ ⟨rfl, rfl, rfl⟩ rfl (by decide) (agg_int _) C.c5 D.c5 (ni a.ae b.ae _).1 (ni a.ae b.ae _).2 (fun A F hp => ?_)
  refine or_group (p := 44) (g := 40) (N := 174) F hp (by decide) (by decide) ⟨rfl, rfl, rfl⟩ ⟨rfl, rfl, rfl⟩ ⟨rfl, rfl, rfl⟩ ⟨rfl, rfl, rfl⟩ ⟨rfl, rfl, rfl⟩ ⟨rfl, rfl, rfl⟩ ⟨rfl, rfl, rfl⟩ rfl (by decide) (agg_str _) C.c6 D.c6 (ns a.pfx b.pfx _).1 (ns a.pfx b.pfx _).2 (fun A F hp => ?_)
  refine or_group (p := 51) (g := 47) (N := 174) F hp (by decide) (by decide) ⟨rfl, rfl, rfl⟩ ⟨rfl, rfl, rfl⟩ ⟨rfl, rfl, rfl⟩ ⟨rfl, rfl, rfl⟩ ⟨rfl, rfl, rfl⟩ ⟨rfl, rfl, rfl⟩ ⟨rfl, rfl, rfl⟩ rfl (by decide) (agg_int _) C.c7 D.c7 (ni a.plen b.plen _).1 (ni a.plen b.plen _).2 (fun A F hp => ?_)
  refine or_group (p := 58) (g := 54) (N := 174) F hp (by decide) (by decide) ⟨rfl, rfl, rfl⟩ ⟨rfl, rfl, rfl⟩ ⟨rfl, rfl, rfl⟩ ⟨rfl, rfl, rfl⟩ ⟨rfl, rfl, rfl⟩ ⟨rfl, rfl, rfl⟩ ⟨rfl, rfl, rfl⟩ rfl (by decide) (agg_int _) C.c8 D.c8 (ni a.tag b.tag _).1 (ni a.tag b.tag _).2 (fun A F hp => ?_)
  refine or_group (p := 65) (g := 61) (N := 174) F hp (by decide) (by decide) ⟨rfl, rfl, rfl⟩ ⟨rfl, rfl, rfl⟩ ⟨rfl, rfl, rfl⟩ ⟨rfl, rfl, rfl⟩ ⟨rfl, rfl, rfl⟩ ⟨rfl, rfl, rfl⟩ ⟨rfl, rfl, rfl⟩ rfl (by decide) (agg_str _) C.c9 D.c9 (ns a.next b.next _).1 (ns a.next b.next _).2 (fun A F hp => ?_)
  refine or_group (p := 72) (g := 68) (N := 174) F hp (by decide) (by decide) ⟨rfl, rfl, rfl⟩ ⟨rfl, rfl, rfl⟩ ⟨rfl, rfl, rfl⟩ ⟨rfl, rfl, rfl⟩ ⟨rfl, rfl, rfl⟩ ⟨rfl, rfl, rfl⟩ ⟨rfl, rfl, rfl⟩ rfl (by decide) (agg_int _) C.c10 D.c10 (ni a.metric b.metric _).1 (ni a.metric b.metric _).2 (fun A F hp => ?_)
  refine wpList_nil ?_
  refine hK2 _ _ ?_
  refine wp_cond_split hp (fun ht => ?_) (fun hf => ?_)
  · refine wp_seq (wp_region_lit (l := [_]) ?_)
    refine st_yes (v := .bool false) (wanted_none rfl) rfl rfl (wpList_nil ?_)
    refine wp_ret ?_
    exact ret_slot4 (v := false) rfl (F.put (d := 4) (by decide)) (put_same (by rw [F.size]; decide)) (by rw [H1.out, ht]; simp) h0.2.2.2.2
  refine wp_skip ?_
  refine hK1 _ _ ?_
  clear hK1 hK2 hp
  refine wp_seq (wp_seq (wp_region_lit ?_))
  refine first_group (p := 80) (N := 174) F (by decide) (by decide) ⟨rfl, rfl, rfl⟩ ⟨rfl, rfl, rfl⟩ ⟨rfl, rfl, rfl⟩ ⟨rfl, rfl, rfl⟩ ⟨rfl, rfl, rfl⟩ (by decide) (agg_str _) C.c11 D.c11 (ns a.id b.id _).1 (ns a.id b.id _).2 (fun A F hp => ?_)
  refine or_group (p := 84) (g := 5) (N := 174) F hp (by decide) (by decide) ⟨rfl, rfl, rfl⟩ ⟨rfl, rfl, rfl⟩ ⟨rfl, rfl, rfl⟩ ⟨rfl, rfl, rfl⟩ ⟨rfl, rfl, rfl⟩ ⟨rfl, rfl, rfl⟩ ⟨rfl, rfl, rfl⟩ rfl (by decide) (agg_int _) C.c12 D.c12 (ni a.seq b.seq _).1 (ni a.seq b.seq _).2 (fun A F hp => ?_)
  refine or_group (p := 91) (g := 12) (N := 174) F hp (by decide) (by decide) ⟨rfl, rfl, rfl⟩ ⟨rfl, rfl, rfl⟩ ⟨rfl, rfl, rfl⟩ ⟨rfl, rfl, rfl⟩ ⟨rfl, rfl, rfl⟩ ⟨rfl, rfl, rfl⟩ ⟨rfl, rfl, rfl⟩ rfl (by decide) (agg_int _) C.c13 D.c13 (ni a.seq2 b.seq2 _).1 (ni a.seq2 b.seq2 _).2 (fun A F hp => ?_)
  refine or_group (p := 98) (g := 19) (N := 174) F hp (by decide) (by decide) ⟨rfl, rfl, rfl⟩ ⟨rfl, rfl, rfl⟩ ⟨rfl, rfl, rfl⟩ ⟨rfl, rfl, rfl⟩ ⟨rfl, rfl, rfl⟩ ⟨rfl, rfl, rfl⟩ ⟨rfl, rfl, rfl⟩ rfl (by decide) (agg_int _) C.c14 D.c14 (ni a.interval b.interval _).1 (ni a.interval b.interval _).2 (fun A F hp => ?_)
  refine or_group (p := 105) (g := 26) (N := 174) F hp (by decide) (by decide) ⟨rfl, rfl, rfl⟩ ⟨rfl, rfl, rfl⟩ ⟨rfl, rfl, rfl⟩ ⟨rfl, rfl, rfl⟩ ⟨rfl, rfl, rfl⟩ ⟨rfl, rfl, rfl⟩ ⟨rfl, rfl, rfl⟩ rfl (by decide) (agg_int _) C.c15 D.c15 (ni a.flags b.flags _).1 (ni a.flags b.flags _).2 (fun A F hp => ?_)
  refine or_group (p := 112) (g := 33) (N := 174) F hp (by decide) (by decide) ⟨rfl, rfl, rfl⟩ ⟨rfl, rfl, rfl⟩ ⟨rfl, rfl, rfl⟩ ⟨rfl, rfl, rfl⟩ ⟨rfl, rfl, rfl⟩ ⟨rfl, rfl, rfl⟩ ⟨rfl, rfl, rfl⟩ rfl (by decide) (agg_int _) C.c16 D.c16 (ni a.hops b.hops _).1 (ni a.hops b.hops _).2 (fun A F hp => ?_)
  refine or_group (p := 119) (g := 40) (N := 174) F hp (by decide) (by decide) ⟨rfl, rfl, rfl⟩ ⟨rfl, rfl, rfl⟩ ⟨rfl, rfl, rfl⟩ ⟨rfl, rfl, rfl⟩ ⟨rfl, rfl, rfl⟩ ⟨rfl, rfl, rfl⟩ ⟨rfl, rfl, rfl⟩ rfl (by decide) (agg_int _) C.c17 D.c17 (ni a.nonce b.nonce _).1 (ni a.nonce b.nonce _).2 (fun A F hp => ?_)
  refine or_group (p := 126) (g := 47) (N := 174) F hp (by decide) (by decide) ⟨rfl, rfl, rfl⟩ ⟨rfl, rfl, rfl⟩ ⟨rfl, rfl, rfl⟩ ⟨rfl, rfl, rfl⟩ ⟨rfl, rfl, rfl⟩ ⟨rfl, rfl, rfl⟩ ⟨rfl, rfl, rfl⟩ rfl (by decide) (agg_int _) C.c18 D.c18 (ni a.cost b.cost _).1 (ni a.cost b.cost _).2 (fun A F hp => ?_)
  refine or_group (p := 133) (g := 54) (N := 174) F hp (by decide) (by decide) ⟨rfl, rfl, rfl⟩ ⟨rfl, rfl, rfl⟩ ⟨rfl, rfl, rfl⟩ ⟨rfl, rfl, rfl⟩ ⟨rfl, rfl, rfl⟩ ⟨rfl, rfl, rfl⟩ ⟨rfl, rfl, rfl⟩ rfl (by decide) (agg_str _) C.c19 D.c19 (ns a.addr b.addr _).1 (ns a.addr b.addr _).2 (fun A F hp => ?_)
  refine or_group (p := 140) (g := 61) (N := 174) F hp (by decide) (by decide) ⟨rfl, rfl, rfl⟩ ⟨rfl, rfl, rfl⟩ ⟨rfl, rfl, rfl⟩ ⟨rfl, rfl, rfl⟩ ⟨rfl, rfl, rfl⟩ ⟨rfl, rfl, rfl⟩ ⟨rfl, rfl, rfl⟩ rfl (by decide) (agg_str _) C.c20 D.c20 (ns a.orig b.orig _).1 (ns a.orig b.orig _).2 (fun A F hp => ?_)
  refine or_group (p := 147) (g := 68) (N := 174) F hp (by decide) (by decide) ⟨rfl, rfl, rfl⟩ ⟨rfl, rfl, rfl⟩ ⟨rfl, rfl, rfl⟩ ⟨rfl, rfl, rfl⟩ ⟨rfl, rfl, rfl⟩ ⟨rfl, rfl, rfl⟩ ⟨rfl, rfl, rfl⟩ rfl (by decide) (agg_int _) C.c22 D.c22 (ni a.typ b.typ _).1 (ni a.typ b.typ _).2 (fun A F hp => ?_)
  refine or_group (p := 154) (g := 75) (N := 174) F hp (by decide) (by decide) ⟨rfl, rfl, rfl⟩ ⟨rfl, rfl, rfl⟩ ⟨rfl, rfl, rfl⟩ ⟨rfl, rfl, rfl⟩ ⟨rfl, rfl, rfl⟩ ⟨rfl, rfl, rfl⟩ ⟨rfl, rfl, rfl⟩ rfl (by decide) (agg_str _) C.c23 D.c23 (ns a.data b.data _).1 (ns a.data b.data _).2 (fun A F hp => ?_)
  refine wpList_nil ?_
  refine wp_cond_split hp (fun ht => ?_) (fun hf2 => ?_)
  · refine wp_seq (wp_region_lit (l := [_]) ?_)
    refine st_yes (v := .bool false) (wanted_none rfl) rfl rfl (wpList_nil ?_)
    refine wp_ret ?_
    exact ret_slot4 (v := false) rfl (F.put (d := 4) (by decide)) (put_same (by rw [F.size]; decide)) (by rw [H1.out, ht]; simp) h0.2.2.2.2
  refine wp_skip ?_
  have H2 : M.same a b = (decide (a.ll = b.ll) && decide (a.sl = b.sl)) := by rw [H1.out, hf, hf2]; simp
  clear hp H1 hf hf2
  refine wp_seq (wp_region_lit (l := [_, _, _, _, _, _, _, _, _, _, _, _, _]) ?_)
  refine load_two (q := 162) (N := 174) (gd := none) F (by decide) (by decide) ⟨rfl, rfl, rfl⟩ ⟨rfl, rfl, rfl⟩ ⟨rfl, rfl, rfl⟩ ⟨rfl, rfl, rfl⟩ (fun _ _ _ o ho => wanted_none ho) (by decide) (agg_sl _).1 C.c21 D.c21 (fun A F e1 e2 _ => ?_)
  refine st_call (d := 166) (S := S2 w a b) (wanted_none rfl) rfl rfl (vs := #[.slice a.la a.ll.length a.lc, .slice b.la b.ll.length b.lc]) (by simp only [List.map_toArray, List.map_cons, List.map_nil, e1, e2]) (by go_simp) (PD.out _ h0) (fun W hS => ?_)
  have C := hS.1.cs
  have D := hS.2.1.cs
  have k1 : (A.put (some 166) (.bool (decide (a.ll = b.ll)))).eval (.tmp 166) = .bool (decide (a.ll = b.ll)) := put_same (by rw [F.size]; decide)
  have F1 := F.put (d := 166) (v := .bool (decide (a.ll = b.ll))) (by decide)
  clear F e1 e2
  generalize A.put (some 166) (.bool (decide (a.ll = b.ll))) = B at k1 F1 ⊢
  generalize decide (a.ll = b.ll) = r at k1 H2
  refine st_yes (v := .bool r) (wanted_none rfl) rfl (by rw [BigFrame.run_move _ rfl, k1]) ?_
  have k2 : (B.put (some 167) (.bool r)).eval (.tmp 167) = .bool r := put_same (by rw [F1.size]; decide)
  have F2 := F1.put (d := 167) (v := .bool r) (by decide)
  clear F1 k1
  generalize B.put (some 167) (.bool r) = B at k2 F2 ⊢
  cases r
  · refine st_no (by rw [wanted_some rfl rfl (by rw [F2.size]; decide) k2]; rfl) rfl ?_
    have F3 := F2.put (d := 168) (v := undef) (by decide)
    have k3 : (B.put (some 168) undef).eval (.tmp 167) = .bool false := (put_other (by decide)).trans k2
    generalize B.put (some 168) undef = B at k3 F3 ⊢
    refine st_no (by rw [wanted_some rfl rfl (by rw [F3.size]; decide) k3]; rfl) rfl ?_
    have F4 := F3.put (d := 169) (v := undef) (by decide)
    have k4 : (B.put (some 169) undef).eval (.tmp 167) = .bool false := (put_other (by decide)).trans k3
    generalize B.put (some 169) undef = B at k4 F4 ⊢
    refine st_no (by rw [wanted_some rfl rfl (by rw [F4.size]; decide) k4]; rfl) rfl ?_
    have F5 := F4.put (d := 170) (v := undef) (by decide)
    have k5 : (B.put (some 170) undef).eval (.tmp 167) = .bool false := (put_other (by decide)).trans k4
    generalize B.put (some 170) undef = B at k5 F5 ⊢
    refine st_no (by rw [wanted_some rfl rfl (by rw [F5.size]; decide) k5]; rfl) rfl ?_
    have F6 := F5.put (d := 171) (v := undef) (by decide)
    have k6 : (B.put (some 171) undef).eval (.tmp 167) = .bool false := (put_other (by decide)).trans k5
    generalize B.put (some 171) undef = B at k6 F6 ⊢
    refine st_no (by rw [wanted_some rfl rfl (by rw [F6.size]; decide) k6]; rfl) rfl ?_
    have F7 := F6.put (d := 172) (v := undef) (by decide)
    have k7 : (B.put (some 172) undef).eval (.tmp 167) = .bool false := (put_other (by decide)).trans k6
    generalize B.put (some 172) undef = B at k7 F7 ⊢
    refine st_yes (v := .bool false) (wanted_none rfl) rfl ((ex_pick rfl k7).trans (by rw [if_neg (by decide)]; rfl)) ?_
    have k8 : (B.put (some 173) (.bool false)).eval (.tmp 173) = .bool false := put_same (by rw [F7.size]; decide)
    have F8 := F7.put (d := 173) (v := .bool false) (by decide)
    generalize B.put (some 173) (.bool false) = B at k8 F8 ⊢
    refine st_yes (v := .bool false) (wanted_none rfl) rfl (by rw [BigFrame.run_assign _ rfl, k8]) (wpList_nil ?_)
    refine wp_ret ?_
    exact ret_slot4 (v := false) rfl (F8.put (d := 4) (by decide)) (put_same (by rw [F8.size]; decide)) (by rw [H2]; simp) hS.2.2.2.2
  · refine load_two (q := 168) (N := 174) (gd := some (5, true)) F2 (by decide) (by decide) ⟨rfl, rfl, rfl⟩ ⟨rfl, rfl, rfl⟩ ⟨rfl, rfl, rfl⟩ ⟨rfl, rfl, rfl⟩ (fun B' hs hk o ho => by rw [wanted_some ho rfl (by rw [hs]; decide) ((hk 167 (by decide)).trans k2)]; rfl) (by decide) (agg_sl _).2 C.c24 D.c24 (fun A F e1 e2 hk => ?_)
    have k3 : A.eval (.tmp 167) = .bool true := (hk 167 (by decide)).trans k2
    refine st_call (d := 172) (S := S2 w a b) (by rw [wanted_some rfl rfl (by rw [F.size]; decide) k3]; rfl) rfl rfl (vs := #[.slice a.sa a.sl.length a.sc, .slice b.sa b.sl.length b.sc]) (by simp only [List.map_toArray, List.map_cons, List.map_nil, e1, e2]) (by go_simp) (PS.out _ hS) (fun W hS => ?_)
    have k4 : (A.put (some 172) (.bool (decide (a.sl = b.sl)))).eval (.tmp 172) = .bool (decide (a.sl = b.sl)) := put_same (by rw [F.size]; decide)
    have k5 : (A.put (some 172) (.bool (decide (a.sl = b.sl)))).eval (.tmp 167) = .bool true := (put_other (by decide)).trans k3
    have F3 := F.put (d := 172) (v := .bool (decide (a.sl = b.sl))) (by decide)
    generalize A.put (some 172) (.bool (decide (a.sl = b.sl))) = B at k4 k5 F3 ⊢
    refine st_yes (v := .bool (decide (a.sl = b.sl))) (wanted_none rfl) rfl ((ex_pick rfl k5).trans (by rw [if_pos rfl, k4])) ?_
    have k8 : (B.put (some 173) (.bool (decide (a.sl = b.sl)))).eval (.tmp 173) = .bool (decide (a.sl = b.sl)) := put_same (by rw [F3.size]; decide)
    have F8 := F3.put (d := 173) (v := .bool (decide (a.sl = b.sl))) (by decide)
    generalize B.put (some 173) (.bool (decide (a.sl = b.sl))) = B at k8 F8 ⊢
    refine st_yes (v := .bool (decide (a.sl = b.sl))) (wanted_none rfl) rfl (by rw [BigFrame.run_assign _ rfl, k8]) (wpList_nil ?_)
    refine wp_ret ?_
    exact ret_slot4 rfl (F8.put (d := 4) (by decide)) (put_same (by rw [F8.size]; decide)) (by rw [H2]; simp) hS.2.2.2.2
end Go.Proofs.YtpkmpinbpfblfaaGreatDoor.RSame
namespace Go.Proofs.YtpkmpinbpfblfaaGreatDoor.Own
open Go.ChangeShapes Go.WideShapes Go.ChangeAt Go.RowKit
open Go.Proofs.YtpkmpinbpfblfaaGreatDoor.Ms
open Go.Proofs.YtpkmpinbpfblfaaGreatDoor.Box
open Go.Proofs.YtpkmpinbpfblfaaGreatDoor.Same
open Go.Proofs.YtpkmpinbpfblfaaGreatDoor.Or
set_option linter.unusedVariables false
set_option maxRecDepth 100000

def k1 (m : M) : M := { M.zero with cmd := m.cmd, ver := m.ver, auth := m.auth, family := m.family, tag := m.tag, pfx := m.pfx, plen := m.plen, next := m.next, metric := m.metric }
def k2 (m : M) : M := { M.zero with cmd := m.cmd, tag := m.tag, pfx := m.pfx, plen := m.plen, next := m.next, metric := m.metric }
def k3 (m : M) : M := { M.zero with flags := m.flags, hops := m.hops, nonce := m.nonce, addr := m.addr, seq := m.seq, orig := m.orig, seq2 := m.seq2, sa := m.sa, sl := m.sl, sc := m.sc }
def k4 (m : M) : M := { M.zero with flags := m.flags, plen := m.plen, hops := m.hops, addr := m.addr, seq := m.seq, orig := m.orig, interval := m.interval, sa := m.sa, sl := m.sl, sc := m.sc }
def k5 (m : M) : M := { M.zero with flags := m.flags, la := m.la, ll := m.ll, lc := m.lc, sa := m.sa, sl := m.sl, sc := m.sc }
def k6 (m : M) : M := { M.zero with sa := m.sa, sl := m.sl, sc := m.sc }
def k7 (m : M) : M := { M.zero with nonce := m.nonce, interval := m.interval, sa := m.sa, sl := m.sl, sc := m.sc }
def k8 (m : M) : M := { M.zero with nonce := m.nonce, sa := m.sa, sl := m.sl, sc := m.sc }
def k9 (m : M) : M := { M.zero with flags := m.flags, seq := m.seq, interval := m.interval, sa := m.sa, sl := m.sl, sc := m.sc }
def k10 (m : M) : M := { M.zero with ae := m.ae, cost := m.cost, interval := m.interval, addr := m.addr, sa := m.sa, sl := m.sl, sc := m.sc }
def k11 (m : M) : M := { M.zero with ae := m.ae, pfx := m.pfx, plen := m.plen, interval := m.interval, seq := m.seq, metric := m.metric, id := m.id, next := m.next, sa := m.sa, sl := m.sl, sc := m.sc }
def k12 (m : M) : M := { M.zero with ae := m.ae, pfx := m.pfx, plen := m.plen, sa := m.sa, sl := m.sl, sc := m.sc }
def k13 (m : M) : M := { M.zero with ae := m.ae, pfx := m.pfx, plen := m.plen, seq := m.seq, hops := m.hops, id := m.id, sa := m.sa, sl := m.sl, sc := m.sc }
def k14 (m : M) : M := { M.zero with typ := m.typ, data := m.data }
/-- The fields that it has by its kind, without the kind. -/
def fieldsOf (m : M) : M := if m.kind = 1 then k1 m else if m.kind = 2 then k2 m else if m.kind = 3 then k3 m else if m.kind = 4 then k4 m else if m.kind = 5 then k5 m else if m.kind = 6 then k6 m else if m.kind = 7 then k7 m else if m.kind = 8 then k8 m else if m.kind = 9 then k9 m else if m.kind = 10 then k10 m else if m.kind = 11 then k11 m else if m.kind = 12 then k12 m else if m.kind = 13 then k13 m else if m.kind = 14 then k14 m else M.zero
def isKind (m : M) : Bool := decide (1 ≤ m.kind ∧ m.kind ≤ 14)
def ownM (m : M) : M := if isKind m then { fieldsOf m with kind := m.kind } else M.zero

theorem loadVarM {w : World} {b : Nat} {m : M} (h : Bx w b m) : (loadVar 43 ⟨b, 0, none⟩).run Tryz.prog w = .ok (.agg m.cells) w :=
  run_loadVar_row w b 43 43 m.cells (0, 0) _ h Tryz.underlying43 rfl infoM

end Go.Proofs.YtpkmpinbpfblfaaGreatDoor.Own
namespace Go.Proofs.YtpkmpinbpfblfaaGreatDoor.G1
open Go.ChangeShapes Go.WideShapes Go.ChangeAt Go.RowKit
open Go.Proofs.YtpkmpinbpfblfaaGreatDoor.Ms
open Go.Proofs.YtpkmpinbpfblfaaGreatDoor.S1
open Go.Proofs.YtpkmpinbpfblfaaGreatDoor.Lk
open Go.Proofs.YtpkmpinbpfblfaaGreatDoor.Nu
open Go.Proofs.YtpkmpinbpfblfaaGreatDoor.Cur (numL)
open Go.Proofs.YtpkmpinbpfblfaaGreatDoor.Oct (fitsB)
open Go.Proofs.YtpkmpinbpfblfaaGreatDoor.Own (k7 k8 k9 k10 ownM isKind fieldsOf)
open Go.Proofs.YtpkmpinbpfblfaaGreatDoor.F1 (bt bt_nn bt_lt num_one num_two putB putO okT encT enc1 ok1 outT placed)
set_option linter.unusedVariables false
set_option maxRecDepth 100000
set_option maxRecDepth 100000

/-- Is it bare? -/
def bare (m : M) : Bool := isKind m && M.same m (ownM m)
theorem is_7 {m : M} (h : m.kind = 7) : isKind m = true ∧ ownM m = { k7 m with kind := m.kind } := by
  have hi : isKind m = true := by simp [isKind, h]
  exact ⟨hi, by simp [ownM, hi, fieldsOf, h]⟩
theorem is_8 {m : M} (h : m.kind = 8) : isKind m = true ∧ ownM m = { k8 m with kind := m.kind } := by
  have hi : isKind m = true := by simp [isKind, h]
  exact ⟨hi, by simp [ownM, hi, fieldsOf, h]⟩
theorem is_9 {m : M} (h : m.kind = 9) : isKind m = true ∧ ownM m = { k9 m with kind := m.kind } := by
  have hi : isKind m = true := by simp [isKind, h]
  exact ⟨hi, by simp [ownM, hi, fieldsOf, h]⟩
theorem is_10 {m : M} (h : m.kind = 10) : isKind m = true ∧ ownM m = { k10 m with kind := m.kind } := by
  have hi : isKind m = true := by simp [isKind, h]
  exact ⟨hi, by simp [ownM, hi, fieldsOf, h]⟩
/-- Is there room for each of its numbers? -/
def nums (m : M) : Bool := fitsB m.nonce 2 && (fitsB m.interval 2 && (fitsB m.seq 2 && fitsB m.cost 2))
/-- How many bytes an address has, by its encoding. -/
def sizeA (ae : Int) : Nat := if ae = 1 then 4 else if ae = 2 then 16 else if ae = 3 then 8 else 0
/-- May an address be, in an encoding? -/
def shB (ae : Int) (a : ByteArray) : Bool := if ae = 3 then link a else decide (0 ≤ ae ∧ ae ≤ 3) && decide (a.size = sizeA ae)
/-- What stands of it; and what stands so. -/
def shT (ae : Int) (a : ByteArray) : ByteArray := if ae = 3 then shA a else if shB ae a then a else ⟨#[]⟩
def lgT (ae : Int) (s : ByteArray) : ByteArray := if ae = 3 then lgA s else s
/-- What a kind has for itself. -/
def kindB (m : M) : Bool := if m.kind = 7 ∨ m.kind = 8 then true else if m.kind = 9 then decide (0 ≤ m.flags ∧ m.flags ≤ 1) else if m.kind = 10 then shB m.ae m.addr else false
/-- May it be? -/
def okF (m : M) : Bool := bare m && (okS m.sl && (nums m && kindB m))
def typF (m : M) : Int := if m.kind = 7 then 2 else if m.kind = 8 then 3 else if m.kind = 9 then 4 else 5
/-- The fields of each kind. -/
def fld7 (m : M) : List UInt8 := 0 :: 0 :: (layN m.nonce 2 ++ layN m.interval 2)
def fld9 (m : M) : List UInt8 := layN (m.flags * 32768) 2 ++ (layN m.seq 2 ++ layN m.interval 2)
def fld10 (m : M) : List UInt8 := layN m.ae 1 ++ (0 :: (layN m.cost 2 ++ (layN m.interval 2 ++ (shT m.ae m.addr).data.toList)))
def fldF (m : M) : List UInt8 := if m.kind = 7 then fld7 m else if m.kind = 8 then layN m.nonce 2 else if m.kind = 9 then fld9 m else fld10 m
/-- A TLV's data; its bytes. -/
def datF (m : M) : ByteArray := ⟨(fldF m ++ (putS m.sl).data.toList).toArray⟩
def putF (m : M) : ByteArray := if okF m then putO (typF m) (datF m) else ⟨#[]⟩
theorem putF_yes {m : M} (h : okF m = true) : putF m = putO (typF m) (datF m) := by unfold putF; rw [if_pos h]
/-- The number of two bytes. -/
def num2 (d : ByteArray) (a : Nat) : Int := ((numL ((d.data.toList.drop a).take 2) : Nat) : Int)
/-- What the fields of each type say. -/
def hd2 (d : ByteArray) : M := { M.zero with kind := 7, nonce := num2 d 2, interval := num2 d 4 }
def hd3 (d : ByteArray) : M := { M.zero with kind := 8, nonce := num2 d 0 }
def hd4 (d : ByteArray) : M := { M.zero with kind := 9, flags := bt d 0 / 128, seq := num2 d 2, interval := num2 d 4 }
def hd5 (d : ByteArray) : M := { M.zero with kind := 10, ae := bt d 0, cost := num2 d 2, interval := num2 d 4, addr := lgT (bt d 0) (d.extract 6 (6 + sizeA (bt d 0))) }
def hdF (t : Int) (d : ByteArray) : M := if t = 2 then hd2 d else if t = 3 then hd3 d else if t = 4 then hd4 d else hd5 d
/-- How many bytes the fields have. -/
def szF (t : Int) (d : ByteArray) : Nat := if t = 3 then 2 else if t = 5 then 6 + sizeA (bt d 0) else 6
/-- Is it an Ihu of an encoding that there isn't? -/
def noF (t : Int) (d : ByteArray) : Prop := t = 5 ∧ 3 < bt d 0
/-- The message that a TLV says, whether it counts, the error. -/
noncomputable def outF (t : Int) (d : ByteArray) : M × Bool × Int :=
  open Classical in
  if d.size < szF t d then (M.zero, false, 2) else if noF t d then (M.zero, false, 0)
  else if (outS (d.extract (szF t d) d.size)).2.2 = 0 ∧ (outS (d.extract (szF t d) d.size)).2.1 = true then ({ hdF t d with sl := (outS (d.extract (szF t d) d.size)).1 }, true, 0)
  else (M.zero, false, (outS (d.extract (szF t d) d.size)).2.2)
theorem out_short {t : Int} {d : ByteArray} (h : d.size < szF t d) : outF t d = (M.zero, false, 2) := by unfold outF; rw [if_pos h]
theorem out_none {t : Int} {d : ByteArray} (h : ¬ d.size < szF t d) (k : noF t d) : outF t d = (M.zero, false, 0) := by unfold outF; rw [if_neg h, if_pos k]
theorem out_yes {t : Int} {d : ByteArray} {l : List El} (h : ¬ d.size < szF t d) (k : ¬ noF t d) (o : outS (d.extract (szF t d) d.size) = (l, true, 0)) : outF t d = ({ hdF t d with sl := l }, true, 0) := by
  unfold outF; rw [if_neg h, if_neg k, o, if_pos ⟨rfl, rfl⟩]
theorem out_sub {t : Int} {d : ByteArray} {l : List El} {b : Bool} {e : Int} (h : ¬ d.size < szF t d) (k : ¬ noF t d) (o : outS (d.extract (szF t d) d.size) = (l, b, e)) (n : ¬ (e = 0 ∧ b = true)) : outF t d = (M.zero, false, e) := by
  unfold outF; rw [if_neg h, if_neg k, o, if_neg n]
theorem size_list (a : ByteArray) : a.data.toList.length = a.size := by simp

theorem sizeA_le (ae : Int) : sizeA ae ≤ 16 := by unfold sizeA; split <;> (try split) <;> (try split) <;> omega
theorem size_far {ae : Int} (h : 3 < ae) : sizeA ae = 0 := by unfold sizeA; rw [if_neg (by omega), if_neg (by omega), if_neg (by omega)]
theorem sh_n {ae : Int} (h : ¬ ae = 3) (a : ByteArray) : shB ae a = (decide (0 ≤ ae ∧ ae ≤ 3) && decide (a.size = sizeA ae)) ∧ shT ae a = if shB ae a then a else ⟨#[]⟩ := by
  unfold shT shB; rw [if_neg h, if_neg h]; exact ⟨rfl, rfl⟩
theorem sh_facts {ae : Int} {a : ByteArray} (h : shB ae a = true) : 0 ≤ ae ∧ ae ≤ 3 ∧ (shT ae a).size = sizeA ae ∧ lgT ae (shT ae a) = a := by
  by_cases h3 : ae = 3
  · subst h3
    exact ⟨by decide, by decide, sh_size h, lg_sh h⟩
  · have e := h
    rw [(sh_n h3 a).1] at e
    simp only [Bool.and_eq_true, decide_eq_true_eq] at e
    have e2 : shT ae a = a := by rw [(sh_n h3 a).2, if_pos h]
    exact ⟨e.1.1, e.1.2, by rw [e2]; exact e.2, by rw [e2]; unfold lgT; rw [if_neg h3]⟩
theorem lg_facts {ae : Int} {s : ByteArray} (h0 : 0 ≤ ae) (h1 : ae ≤ 3) (hs : s.size = sizeA ae) : shB ae (lgT ae s) = true ∧ shT ae (lgT ae s) = s := by
  by_cases h3 : ae = 3
  · subst h3
    exact link_lg hs
  · have e : lgT ae s = s := by unfold lgT; rw [if_neg h3]
    have hb : shB ae s = true := by
      rw [(sh_n h3 s).1, decide_eq_true ⟨h0, h1⟩, decide_eq_true hs]; rfl
    rw [e]
    exact ⟨hb, by rw [(sh_n h3 s).2, if_pos hb]⟩

structure Ok (m : M) : Prop where
  bare : bare m = true
  subs : okS m.sl = true
  nonce : fitsB m.nonce 2 = true
  interval : fitsB m.interval 2 = true
  seq : fitsB m.seq 2 = true
  cost : fitsB m.cost 2 = true
  kind : kindB m = true
theorem ok_iff (m : M) : okF m = true ↔ Ok m := by
  unfold okF nums
  simp only [Bool.and_eq_true]
  exact ⟨fun ⟨a, b, ⟨c, d, e, f⟩, g⟩ => ⟨a, b, c, d, e, f, g⟩, fun ⟨a, b, c, d, e, f, g⟩ => ⟨a, b, ⟨c, d, e, f⟩, g⟩⟩
theorem kind_cases {m : M} (h : kindB m = true) : m.kind = 7 ∨ m.kind = 8 ∨ (m.kind = 9 ∧ 0 ≤ m.flags ∧ m.flags ≤ 1) ∨ (m.kind = 10 ∧ shB m.ae m.addr = true) := by
  unfold kindB at h
  split at h
  · rename_i h1
    rcases h1 with h1 | h1
    · exact .inl h1
    · exact .inr (.inl h1)
  split at h
  · rename_i h1 h2
    exact .inr (.inr (.inl ⟨h2, by simpa using h⟩))
  split at h
  · rename_i h1 h2 h3
    exact .inr (.inr (.inr ⟨h3, h⟩))
  · cases h
theorem fits2 {n : Int} (h0 : 0 ≤ n) (h1 : n < 65536) : fitsB n 2 = true := (Oct.fitsB_iff n 2).2 ⟨by omega, by omega, h0, by simpa [Oct.pw] using h1⟩
theorem fits1 {n : Int} (h0 : 0 ≤ n) (h1 : n < 256) : fitsB n 1 = true := (Oct.fitsB_iff n 1).2 ⟨by omega, by omega, h0, by simpa [Oct.pw] using h1⟩
theorem flags_fit {n : Int} (h0 : 0 ≤ n) (h1 : n ≤ 1) : fitsB (n * 32768) 2 = true := fits2 (by omega) (by omega)

theorem f_7 {m : M} (h : m.kind = 7) : typF m = 2 ∧ fldF m = fld7 m := by unfold typF fldF; rw [if_pos h, if_pos h]; exact ⟨rfl, rfl⟩
theorem f_8 {m : M} (h : m.kind = 8) : typF m = 3 ∧ fldF m = layN m.nonce 2 := by
  unfold typF fldF; rw [if_neg (by omega), if_pos h, if_neg (by omega), if_pos h]; exact ⟨rfl, rfl⟩
theorem f_9 {m : M} (h : m.kind = 9) : typF m = 4 ∧ fldF m = fld9 m := by
  unfold typF fldF; rw [if_neg (by omega), if_neg (by omega), if_pos h, if_neg (by omega), if_neg (by omega), if_pos h]; exact ⟨rfl, rfl⟩
theorem f_10 {m : M} (h : m.kind = 10) : typF m = 5 ∧ fldF m = fld10 m := by
  unfold typF fldF; rw [if_neg (by omega), if_neg (by omega), if_neg (by omega), if_neg (by omega), if_neg (by omega), if_neg (by omega)]; exact ⟨rfl, rfl⟩
theorem fld_len {m : M} (h : okF m = true) : (fldF m).length ≤ 22 ∧ 2 ≤ typF m ∧ typF m ≤ 5 := by
  obtain ⟨_, _, n1, n2, n3, n4, hk⟩ := (ok_iff m).1 h
  rcases kind_cases hk with k | k | ⟨k, f0, f1⟩ | ⟨k, ha⟩
  · rw [(f_7 k).1, (f_7 k).2]; unfold fld7; simp [lay_len n1, lay_len n2]
  · rw [(f_8 k).1, (f_8 k).2]; simp [lay_len n1]
  · rw [(f_9 k).1, (f_9 k).2]; unfold fld9; simp [lay_len (flags_fit f0 f1), lay_len n2, lay_len n3]
  · obtain ⟨a0, a1, a2, _⟩ := sh_facts ha
    have := sizeA_le m.ae
    rw [(f_10 k).1, (f_10 k).2]; unfold fld10
    simp [lay_len n2, lay_len n4, lay_len (fits1 (n := m.ae) a0 (by omega)), a2]
    omega
theorem dat_size (m : M) : (datF m).size = (fldF m).length + (putS m.sl).size := by
  show (fldF m ++ (putS m.sl).data.toList).toArray.size = _
  simp
theorem dat_le {m : M} (h : okF m = true) : (datF m).size ≤ 222 := by
  have := (fld_len h).1
  have := putS_le m.sl
  rw [dat_size]; omega
theorem putF_ok {m : M} (h : okF m = true) : (putF m).data.toList = enc1 (datF m, typF m) ∧ ok1 (datF m, typF m) := by
  have h1 := fld_len h
  have h2 := dat_le h
  have ho : ok1 (datF m, typF m) := ⟨by show 0 ≤ typF m; omega, by show typF m ≤ 255; omega, by show (datF m).size ≤ 255; omega, fun e => by have : typF m = 0 := e; omega⟩
  refine ⟨?_, ho⟩
  rw [putF_yes h, (F1.put_ok ho (by show ¬ typF m = 0; omega)).2]
theorem putF_size {m : M} (h : okF m = true) : (putF m).size = 2 + (fldF m).length + (putS m.sl).size := by
  have h1 := fld_len h
  rw [← size_list, (putF_ok h).1, F1.enc1_len, if_neg (by show ¬ typF m = 0; omega)]
  show 2 + (datF m).size = _
  rw [dat_size]; omega
theorem num2_fits {d : ByteArray} {a : Nat} (h : a + 2 ≤ d.size) : fitsB (num2 d a) 2 = true := num_fits _ 2 (by rw [List.length_take, List.length_drop, size_list]; omega) (by omega) (by omega)
theorem zero_fits : fitsB 0 2 = true := fits2 (by omega) (by omega)
/-- A message that counts may be, and its fields have as many bytes. -/
theorem get_ok {t : Int} {d : ByteArray} {l : List El} (h2 : 2 ≤ t) (h5 : t ≤ 5) (h : ¬ d.size < szF t d) (k : ¬ noF t d) (hl : okS l = true) :
    okF { hdF t d with sl := l } = true ∧ (fldF { hdF t d with sl := l }).length = szF t d := by
  rcases (show t = 2 ∨ t = 3 ∨ t = 4 ∨ t = 5 by omega) with rfl | rfl | rfl | rfl
  · have hz : 6 ≤ d.size := by have : ¬ d.size < 6 := h; omega
    have n1 := num2_fits (d := d) (a := 2) (by omega)
    have n2 := num2_fits (d := d) (a := 4) (by omega)
    show okF { hd2 d with sl := l } = true ∧ (fldF { hd2 d with sl := l }).length = 6
    refine ⟨(ok_iff _).2 ⟨?_, hl, n1, n2, zero_fits, zero_fits, rfl⟩, ?_⟩
    · unfold bare
      rw [(is_7 rfl).1, (is_7 rfl).2]
      unfold M.same M.flatE k7 hd2 M.zero
      simp
    · rw [(f_7 rfl).2]
      show (0 :: 0 :: (layN (num2 d 2) 2 ++ layN (num2 d 4) 2)).length = 6
      simp [lay_len n1, lay_len n2]
  · have hz : 2 ≤ d.size := by have : ¬ d.size < 2 := h; omega
    have n1 := num2_fits (d := d) (a := 0) (by omega)
    show okF { hd3 d with sl := l } = true ∧ (fldF { hd3 d with sl := l }).length = 2
    refine ⟨(ok_iff _).2 ⟨?_, hl, n1, zero_fits, zero_fits, zero_fits, rfl⟩, ?_⟩
    · unfold bare
      rw [(is_8 rfl).1, (is_8 rfl).2]
      unfold M.same M.flatE k8 hd3 M.zero
      simp
    · rw [(f_8 rfl).2]
      show (layN (num2 d 0) 2).length = 2
      exact lay_len n1
  · have hz : 6 ≤ d.size := by have : ¬ d.size < 6 := h; omega
    have n1 := num2_fits (d := d) (a := 2) (by omega)
    have n2 := num2_fits (d := d) (a := 4) (by omega)
    have b0 := bt_nn d 0
    have b1 := bt_lt d 0
    show okF { hd4 d with sl := l } = true ∧ (fldF { hd4 d with sl := l }).length = 6
    refine ⟨(ok_iff _).2 ⟨?_, hl, zero_fits, n2, n1, zero_fits, ?_⟩, ?_⟩
    · unfold bare
      rw [(is_9 rfl).1, (is_9 rfl).2]
      unfold M.same M.flatE k9 hd4 M.zero
      simp
    · show decide (0 ≤ bt d 0 / 128 ∧ bt d 0 / 128 ≤ 1) = true
      exact decide_eq_true ⟨by omega, by omega⟩
    · rw [(f_9 rfl).2]
      show (layN (bt d 0 / 128 * 32768) 2 ++ (layN (num2 d 2) 2 ++ layN (num2 d 4) 2)).length = 6
      simp [lay_len n1, lay_len n2, lay_len (flags_fit (n := bt d 0 / 128) (by omega) (by omega))]
  · have hz : 6 + sizeA (bt d 0) ≤ d.size := by have : ¬ d.size < 6 + sizeA (bt d 0) := h; omega
    have n1 := num2_fits (d := d) (a := 2) (by omega)
    have n2 := num2_fits (d := d) (a := 4) (by omega)
    have b0 := bt_nn d 0
    have b1 : bt d 0 ≤ 3 := by
      have : ¬ (3 < bt d 0) := fun x => k ⟨rfl, x⟩
      omega
    have hs : (d.extract 6 (6 + sizeA (bt d 0))).size = sizeA (bt d 0) := by simp; omega
    obtain ⟨l1, l2⟩ := lg_facts b0 b1 hs
    show okF { hd5 d with sl := l } = true ∧ (fldF { hd5 d with sl := l }).length = 6 + sizeA (bt d 0)
    refine ⟨(ok_iff _).2 ⟨?_, hl, zero_fits, n2, zero_fits, n1, ?_⟩, ?_⟩
    · unfold bare
      rw [(is_10 rfl).1, (is_10 rfl).2]
      unfold M.same M.flatE k10 hd5 M.zero
      simp
    · exact l1
    · rw [(f_10 rfl).2]
      show (layN (bt d 0) 1 ++ (0 :: (layN (num2 d 2) 2 ++ (layN (num2 d 4) 2 ++ (shT (bt d 0) (lgT (bt d 0) (d.extract 6 (6 + sizeA (bt d 0))))).data.toList)))).length = _
      rw [l2]
      simp only [List.length_append, List.length_cons, lay_len n1, lay_len n2, lay_len (fits1 b0 (show bt d 0 < 256 by omega)), size_list, hs]
      omega
/-- What a TLV comes to. -/
theorem out_cases {t : Int} {d : ByteArray} (h2 : 2 ≤ t) (h5 : t ≤ 5) : (∃ e, outF t d = (M.zero, false, e)) ∨
    ∃ r, outF t d = (r, true, 0) ∧ okF r = true ∧ (putF r).size ≤ d.size + 2 ∧ r.la = none ∧ r.ll = [] ∧ r.lc = 0 := by
  by_cases h : d.size < szF t d
  · exact .inl ⟨_, out_short h⟩
  by_cases k : noF t d
  · exact .inl ⟨_, out_none h k⟩
  have hz := outS_ok (d.extract (szF t d) d.size)
  have hy : (d.extract (szF t d) d.size).size = d.size - szF t d := by simp
  obtain ⟨⟨l, b, e⟩, ho⟩ : ∃ p, outS (d.extract (szF t d) d.size) = p := ⟨_, rfl⟩
  rw [ho] at hz
  by_cases n : e = 0 ∧ b = true
  · obtain ⟨rfl, rfl⟩ := n
    obtain ⟨g1, g2⟩ := get_ok h2 h5 h k hz.1
    refine .inr ⟨_, out_yes h k ho, g1, ?_, ?_⟩
    · rw [putF_size g1, g2]
      have : (putS l).size ≤ (d.extract (szF t d) d.size).size := hz.2
      show 2 + szF t d + (putS l).size ≤ _
      omega
    · rcases (show t = 2 ∨ t = 3 ∨ t = 4 ∨ t = 5 by omega) with rfl | rfl | rfl | rfl <;> exact ⟨rfl, rfl, rfl⟩
  · exact .inl ⟨_, out_sub h k ho n⟩
theorem out_len (t : Int) (d : ByteArray) (h2 : 2 ≤ t) (h5 : t ≤ 5) : (outF t d).1.la = none ∧ (outF t d).1.ll = [] ∧ (outF t d).1.lc = 0 ∧ (outF t d).1.sl.length ≤ 100 ∧ ∀ x ∈ (outF t d).1.sl, x.1.size ≤ 1099511627776 := by
  rcases out_cases (d := d) h2 h5 with ⟨e, h⟩ | ⟨r, h, ho, _, ha, hb, hc⟩
  · rw [h]; exact ⟨rfl, rfl, rfl, Nat.zero_le _, fun x hx => absurd hx (by show ¬ x ∈ ([] : List El); simp)⟩
  · rw [h]
    have := ((ok_iff r).1 ho).subs
    exact ⟨ha, hb, hc, okS_len this, okS_mem this⟩
end Go.Proofs.YtpkmpinbpfblfaaGreatDoor.G1
namespace Go.Proofs.YtpkmpinbpfblfaaGreatDoor.Bits
set_option linter.unusedVariables false
set_option maxRecDepth 100000

/-- the i-th bit of a byte's number, the highest first -/
def bitN (b p : Nat) : Bool := b.testBit (7 - p)

theorem bitN_eq (b p : Nat) : bitN b p = (b / 2 ^ (7 - p) % 2 == 1) := by
  unfold bitN
  rw [Nat.testBit_eq_decide_div_mod_eq]
  by_cases h : b / 2 ^ (7 - p) % 2 = 1 <;> simp [h]

theorem getD_in (l : List UInt8) (k : Nat) (h : k < l.length) : l.getD k 0 = l[k] := by simp [List.getD, h]
theorem getD_out (l : List UInt8) (k : Nat) (h : l.length ≤ k) : l.getD k 0 = 0 := by simp [List.getD, h]

def bitL (l : List UInt8) (i : Nat) : Bool := bitN (l.getD (i / 8) 0).toNat (i % 8)

theorem bitL_out (l : List UInt8) (i : Nat) (h : 8 * l.length ≤ i) : bitL l i = false := by
  unfold bitL
  rw [getD_out _ _ (by omega)]
  simp [bitN]

/-- the first m bits of a byte's number -/
def mask (b m : Nat) : Nat := (b >>> (8 - m)) <<< (8 - m)

theorem mask_eq (b m : Nat) : mask b m = b / 2 ^ (8 - m) * 2 ^ (8 - m) := by
  unfold mask; rw [Nat.shiftLeft_eq, Nat.shiftRight_eq_div_pow]

theorem mask_le (b m : Nat) : mask b m ≤ b := by rw [mask_eq]; exact Nat.div_mul_le_self _ _

theorem mask_all (b m : Nat) (h : 8 ≤ m) : mask b m = b := by
  rw [mask_eq, show 8 - m = 0 by omega]; simp

theorem mask_none (b : Nat) (h : b < 256) : mask b 0 = 0 := by
  rw [mask_eq]; omega

theorem bitN_mask (b m p : Nat) (hp : p < 8) : bitN (mask b m) p = (decide (p < m) && bitN b p) := by
  unfold bitN mask
  rw [Nat.testBit_shiftLeft, Nat.testBit_shiftRight]
  by_cases h : p < m
  · have e : 7 - p ≥ 8 - m := by omega
    simp [h, e]
  · have e : ¬ 7 - p ≥ 8 - m := by omega
    simp [h, e]

/-- a number below 256 is its eight bits -/
theorem byte_ext {a b : Nat} (ha : a < 256) (hb : b < 256) (h : ∀ p, p < 8 → bitN a p = bitN b p) : a = b := by
  apply Nat.eq_of_testBit_eq
  intro j
  by_cases hj : j < 8
  · have := h (7 - j) (by omega)
    unfold bitN at this
    rw [show 7 - (7 - j) = j by omega] at this
    exact this
  · rw [Nat.testBit_lt_two_pow (Nat.lt_of_lt_of_le ha (show 256 ≤ 2 ^ j from Nat.pow_le_pow_right (n := 2) (by decide) (show 8 ≤ j by omega))),
      Nat.testBit_lt_two_pow (Nat.lt_of_lt_of_le hb (show 256 ≤ 2 ^ j from Nat.pow_le_pow_right (n := 2) (by decide) (show 8 ≤ j by omega)))]

theorem list_ext {a b : List UInt8} (hl : a.length = b.length) (h : ∀ i, i < 8 * a.length → bitL a i = bitL b i) : a = b := by
  apply List.ext_getElem hl
  intro k h1 h2
  apply UInt8.toNat_inj.1
  apply byte_ext (UInt8.toNat_lt _) (UInt8.toNat_lt _)
  intro p hp
  have := h (8 * k + p) (by omega)
  unfold bitL at this
  rw [show (8 * k + p) / 8 = k by omega, show (8 * k + p) % 8 = p by omega] at this
  rw [getD_in _ _ h1, getD_in _ _ h2] at this
  exact this

/-- the first n bits as they are, all others 0 -/
def keepL (l : List UInt8) (n : Nat) : List UInt8 := l.mapIdx fun j b => UInt8.ofNat (mask b.toNat (n - 8 * j))

theorem keepL_length (l : List UInt8) (n : Nat) : (keepL l n).length = l.length := by simp [keepL]

theorem ofNat_mask (b : UInt8) (m : Nat) : (UInt8.ofNat (mask b.toNat m)).toNat = mask b.toNat m := by
  have h := mask_le b.toNat m
  have := UInt8.toNat_lt b
  rw [UInt8.toNat_ofNat']
  omega

theorem keepL_get (l : List UInt8) (n j : Nat) (h : j < (keepL l n).length) : ((keepL l n)[j]).toNat = mask (l[j]'(by simpa [keepL_length] using h)).toNat (n - 8 * j) := by
  simp only [keepL, List.getElem_mapIdx]
  exact ofNat_mask _ _

theorem bitL_keep (l : List UInt8) (n i : Nat) : bitL (keepL l n) i = (decide (i < n) && bitL l i) := by
  by_cases h : i < 8 * l.length
  · unfold bitL
    rw [getD_in _ _ (show i / 8 < (keepL l n).length by rw [keepL_length]; omega), getD_in _ _ (show i / 8 < l.length by omega), keepL_get, bitN_mask _ _ _ (by omega)]
    congr 1
    by_cases hn : i < n
    · simp [hn]; omega
    · simp [hn]; omega
  · rw [bitL_out _ _ (by rw [keepL_length]; omega), bitL_out l i (by omega)]; simp

theorem keepL_keep (l : List UInt8) (n m : Nat) : keepL (keepL l n) m = keepL l (min n m) := by
  apply list_ext (by simp [keepL_length])
  intro i _
  rw [bitL_keep, bitL_keep, bitL_keep, ← Bool.and_assoc]
  congr 1
  by_cases h1 : i < n <;> by_cases h2 : i < m <;> simp [h1, h2] <;> omega

theorem keepL_all (l : List UInt8) (n : Nat) (h : 8 * l.length ≤ n) : keepL l n = l := by
  apply list_ext (by simp [keepL_length])
  intro i hi
  rw [keepL_length] at hi
  rw [bitL_keep]
  simp; omega

theorem keepL_none (l : List UInt8) : keepL l 0 = List.replicate l.length 0 := by
  apply List.ext_getElem (by simp [keepL_length])
  intro k h1 h2
  apply UInt8.toNat_inj.1
  rw [keepL_get, List.getElem_replicate]
  simp [mask_none _ (UInt8.toNat_lt _)]

theorem keepL_min (l : List UInt8) (n : Nat) : keepL l (min n (8 * l.length)) = keepL l n := by
  apply list_ext (by simp [keepL_length])
  intro i hi
  rw [keepL_length] at hi
  rw [bitL_keep, bitL_keep]
  congr 1
  by_cases h : i < n <;> simp [h] <;> omega

/-- the row where one bit more is kept -/
theorem keepL_set (l : List UInt8) (i : Nat) (h : i < 8 * l.length) :
    keepL l (i + 1) = (keepL l i).set (i / 8) (UInt8.ofNat (mask (l[i / 8]'(by omega)).toNat (i % 8 + 1))) := by
  apply List.ext_getElem (by simp [keepL_length])
  intro k h1 h2
  rw [List.getElem_set]
  have hk : k < l.length := by simpa [keepL_length] using h1
  split
  · rename_i e
    subst e
    apply UInt8.toNat_inj.1
    rw [keepL_get, ofNat_mask]
    congr 1
    omega
  · rename_i e
    apply UInt8.toNat_inj.1
    rw [keepL_get, keepL_get]
    by_cases hlt : k < i / 8
    · rw [mask_all _ _ (by omega), mask_all _ _ (by omega)]
    · rw [show i + 1 - 8 * k = 0 by omega, show i - 8 * k = 0 by omega]

theorem mask_next (b p : Nat) (hb : b < 256) (hp : p < 8) : mask b (p + 1) = mask b p + (if bitN b p = true then 2 ^ (7 - p) else 0) := by
  rw [mask_eq, mask_eq, bitN_eq]
  have : p = 0 ∨ p = 1 ∨ p = 2 ∨ p = 3 ∨ p = 4 ∨ p = 5 ∨ p = 6 ∨ p = 7 := by omega
  rcases this with rfl | rfl | rfl | rfl | rfl | rfl | rfl | rfl <;> simp <;> split <;> omega

/-- the row that a copy and one masked byte make -/
theorem keepL_parts (l : List UInt8) (n : Nat) (h : n ≤ 8 * l.length) :
    keepL l n = if n % 8 = 0 then l.take (n / 8) ++ List.replicate (l.length - n / 8) 0
      else (l.take (n / 8) ++ List.replicate (l.length - n / 8) 0).set (n / 8) (UInt8.ofNat (mask (l.getD (n / 8) 0).toNat (n % 8))) := by
  have hbase : ∀ k (h1 : k < l.length), k ≠ n / 8 ∨ n % 8 = 0 → (keepL l n)[k]'(by simpa [keepL_length] using h1) = (l.take (n / 8) ++ List.replicate (l.length - n / 8) 0)[k]'(by simp; omega) := by
    intro k hk hc
    apply UInt8.toNat_inj.1
    rw [keepL_get, List.getElem_append]
    split
    · rename_i hlt
      simp at hlt
      rw [mask_all _ _ (by omega), List.getElem_take]
    · rename_i hlt
      simp at hlt
      rw [show n - 8 * k = 0 by omega, mask_none _ (UInt8.toNat_lt _), List.getElem_replicate]
      rfl
  have hlen : (l.take (n / 8) ++ List.replicate (l.length - n / 8) (0 : UInt8)).length = l.length := by simp; omega
  split
  · rename_i h0
    apply List.ext_getElem (by rw [hlen, keepL_length])
    intro k h1 h2
    rw [keepL_length] at h1
    exact hbase k h1 (.inr h0)
  · rename_i h0
    apply List.ext_getElem (by rw [List.length_set, hlen, keepL_length])
    intro k h1 h2
    rw [keepL_length] at h1
    rw [List.getElem_set]
    split
    · rename_i e
      subst e
      apply UInt8.toNat_inj.1
      rw [keepL_get, ofNat_mask, getD_in _ _ h1]
      congr 1
      omega
    · rename_i e
      exact hbase k h1 (.inl fun he => e he.symm)
end Go.Proofs.YtpkmpinbpfblfaaGreatDoor.Bits
