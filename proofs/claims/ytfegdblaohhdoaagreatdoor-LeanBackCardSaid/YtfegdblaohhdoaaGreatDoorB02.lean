/-
  A long condition 'x.f != y.f || x.g != y.g || ..' over two messages, walked over a frame that is a variable: no way is parted.
  The bytes of Subs, and whether they may be: the program's answers and the document's. Conditions: lists of at most 2^20 elements, of at most 2^40 bytes together.
  Which Subs may be, their bytes, and which Subs bytes hold: definitions on values alone, and facts on them. No conditions.
  addr's Link, Short and Long, and the document's: each by one function of the bytes. No condition.
  Whether two messages are the same: the document's answer. Condition: lists of at most 2^20 elements.
  A message with the fields of its kind alone: what the program makes of it.
  Bits of bytes, as numbers: which are 1, which are kept, how many two texts have alike from the first one on.
  Contracts of the calls that only reckon: Bit, its bounds, a byte's mask and its noughts ahead, Alike; and the document's own.
-/
import Derived.Test.YtfegdblaohhdoaaGreatDoorB01
import Derived.Test.YtfegdblaohhdoaaGreatDoorRows
import Derived.WalkKit
import Derived.ProofKit
import Derived.OpenShut
import Derived.ShutString
import Derived.Below
import Derived.Lib.Hide
import Derived.WalkLawsBesides
import Derived.Outline
import Derived.RegionTactic
import Derived.Deep.RegionWith
import Derived.StillTailTactics
import Derived.Deep.RegionHeld3
import Derived.Deep.QuietTactic
import Derived.BigQuiet
import Derived.IntWalk
import Derived.LoopTactic
import Derived.Laws.IdiomStrings
namespace Go.Proofs.YtfegdblaohhdoaaGreatDoor.Or
open Go.ChangeShapes Go.WideShapes Go.ChangeAt Go.RowKit
open Go.Proofs.YtfegdblaohhdoaaGreatDoor.Ms
open Go.Proofs.YtfegdblaohhdoaaGreatDoor.Box
set_option linter.unusedVariables false
set_option maxRecDepth 100000

section
variable {P : Program} {ops : Array Oper} {Q : Exit → Act → World → Prop} {A : Act} {w : World} {rest : List Oper} {o : Oper}

theorem st_yes {d : Nat} {v : Value} (hw : Region.wanted o (yielded ops A.tmps) = true) (hd : o.dst = some d) (hy : (execOp A.eval o).run P w = .ok (.value v) w)
    (h : wpList P ops Q rest (A.put (some d) v) w) : wpList P ops Q (o :: rest) A w :=
  wpList_step fun K hK => by
    rw [if_pos hw]
    unfold Oper.wp
    rw [hy]
    simp only [Oper.upon, hd]
    exact hK _ _ h
theorem st_no {d : Nat} (hw : Region.wanted o (yielded ops A.tmps) = false) (hd : o.dst = some d)
    (h : wpList P ops Q rest (A.put (some d) undef) w) : wpList P ops Q (o :: rest) A w :=
  wpList_step fun K hK => by
    rw [if_neg (by rw [hw]; simp), hd]
    exact hK _ _ h

theorem put_size (d : Nat) (v : Value) : (A.put (some d) v).tmps.size = A.tmps.size := by simp [Act.put]
theorem put_same {d : Nat} {v : Value} (h : d < A.tmps.size) : (A.put (some d) v).eval (.tmp d) = v := by simp [Act.eval, Act.put, h]
theorem put_other {d t : Nat} {v : Value} (h : d ≠ t) : (A.put (some d) v).eval (.tmp t) = A.eval (.tmp t) := by simp [Act.eval, Act.put, Array.getElem?_setIfInBounds_ne h]
theorem yielded_eq {g : Nat} {d : Nat} {b : Bool} (hg : (ops[g]?).bind (·.dst) = some d) (hs : d < A.tmps.size) (hv : A.eval (.tmp d) = .bool b) : yielded ops A.tmps g = some b := by
  unfold yielded
  rw [hg]
  simp only [Act.eval, Array.getD_eq_getD_getElem?, Array.getElem?_eq_getElem hs, Option.getD_some] at hv
  simp [Array.getElem?_eq_getElem hs, hv]
theorem wanted_none (hg : o.guard = none) : Region.wanted o (yielded ops A.tmps) = true := by simp [Region.wanted, hg]
theorem wanted_some {g : Nat} {d : Nat} {b c : Bool} (ho : o.guard = some (g, c)) (hg : (ops[g]?).bind (·.dst) = some d) (hs : d < A.tmps.size) (hv : A.eval (.tmp d) = .bool b) : Region.wanted o (yielded ops A.tmps) = (b == c) := by
  simp [Region.wanted, ho, yielded_eq hg hs hv]
end

theorem ex_call {P : Program} {o : Oper} {ρ : Operand → Value} {f : Nat} {args : Array Operand} {ty : Array TypeId} {vs : Array Value} {w : World} (ho : o.op = .call ⟨.value (.func f), args, ty⟩) (hf : ρ (.func f) = .func (.func f) #[] #[]) (ha : args.map ρ = vs) (hcf : (callFunc f vs).run P w = .ok (.enter f vs) w) :
    (execOp ρ o).run P w = .ok (.enter f vs) w := by
  unfold execOp
  simp only [ho, resolve, hf, ha, go_sem]
  simpa [go_sem] using hcf
theorem st_call {P : Program} {ops : Array Oper} {Q : Exit → Act → World → Prop} {A : Act} {w : World} {rest : List Oper} {o : Oper} {d : Nat} {f : Nat} {args : Array Operand} {ty : Array TypeId} {vs : Array Value} {v : Value} {S : World → Prop}
    (hw : Region.wanted o (yielded ops A.tmps) = true) (hd : o.dst = some d) (ho : o.op = .call ⟨.value (.func f), args, ty⟩) (ha : args.map A.eval = vs) (hcf : (callFunc f vs).run P w = .ok (.enter f vs) w)
    (hc : Calls P f vs w fun e w' => e = .returned v ∧ S w') (h : ∀ w', S w' → wpList P ops Q rest (A.put (some d) v) w') : wpList P ops Q (o :: rest) A w :=
  wpList_step fun K hK => by
    rw [if_pos hw]
    unfold Oper.wp
    rw [ex_call ho rfl ha hcf, Oper.upon_enter]
    refine hc.mono ?_
    rintro e w' ⟨rfl, hS⟩
    rw [hd]
    exact hK _ _ (h w' hS)

theorem run_fieldM (b j : Nat) (hj : j < 25) (w : World) : (Instr.fieldAt 29 (.pointer (some ⟨b, 0, none⟩)) j).run Tryz.prog w = .ok (.pointer (some ⟨b, j, none⟩)) w := by
  rcases (show j = 0 ∨ j = 1 ∨ j = 2 ∨ j = 3 ∨ j = 4 ∨ j = 5 ∨ j = 6 ∨ j = 7 ∨ j = 8 ∨ j = 9 ∨ j = 10 ∨ j = 11 ∨ j = 12 ∨ j = 13 ∨ j = 14 ∨ j = 15 ∨ j = 16 ∨ j = 17 ∨ j = 18 ∨ j = 19 ∨ j = 20 ∨ j = 21 ∨ j = 22 ∨ j = 23 ∨ j = 24 by omega) with rfl | rfl | rfl | rfl | rfl | rfl | rfl | rfl | rfl | rfl | rfl | rfl | rfl | rfl | rfl | rfl | rfl | rfl | rfl | rfl | rfl | rfl | rfl | rfl | rfl <;> go_simp
theorem ex_field {o : Oper} {ρ : Operand → Value} {x : Operand} {b j : Nat} {w : World} (ho : o.op = .fieldAddr 29 x j) (hj : j < 25) (hx : ρ x = .pointer (some ⟨b, 0, none⟩)) :
    (execOp ρ o).run Tryz.prog w = .ok (.value (.pointer (some ⟨b, j, none⟩))) w := by
  unfold execOp
  simp only [ho, hx, Sem.run_bind, run_fieldM b j hj, Result.andThen_ok, Sem.run_pure]
theorem ex_load {o : Oper} {ρ : Operand → Value} {x : Operand} {T : TypeId} {p : Addr} {v : Value} {w : World} (ho : o.op = .load T x) (hT : (isAgg T).run Tryz.prog w = .ok false w) (hx : ρ x = .pointer (some p)) (hc : w.cell? p = some v) :
    (execOp ρ o).run Tryz.prog w = .ok (.value v) w := by
  unfold execOp
  simp only [ho, hx, Instr.loadAt, Instr.sureAddr, loadVar, hT, Sem.run_bind, Result.andThen_ok, Sem.run_pure, Bool.false_eq_true, if_false, run_load, hc]
theorem ex_neq {o : Oper} {ρ : Operand → Value} {x y : Operand} {T T' : TypeId} {u v : Value} {r : Bool} {w : World} (ho : o.op = .binOp .neq T x y T') (hx : ρ x = u) (hy : ρ y = v)
    (h1 : (eqGuard .neq T x y u v).run Tryz.prog w = .ok () w) (h2 : (binOp .neq T u v).run Tryz.prog w = .ok (.bool r) w) : (execOp ρ o).run Tryz.prog w = .ok (.value (.bool r)) w := by
  unfold execOp
  simp only [ho, hx, hy, Sem.run_bind, h1, h2, Result.andThen_ok, Sem.run_pure]
theorem ex_pick {o : Oper} {ρ : Operand → Value} {c x y : Operand} {r : Bool} {w : World} (ho : o.op = .pick c x y) (hc : ρ c = .bool r) :
    (execOp ρ o).run Tryz.prog w = .ok (.value (if r then ρ x else ρ y)) w := by
  unfold execOp
  simp only [ho, hc, asBool, Sem.run_bind, Result.andThen_ok, Sem.run_pure]

theorem agg_int (w : World) : (isAgg 3).run Tryz.prog w = .ok false w := by go_simp
theorem agg_str (w : World) : (isAgg 9).run Tryz.prog w = .ok false w := by go_simp

/-- The frame: its size, the two variables' addresses. -/
structure Fr (A : Act) (N n : Nat) : Prop where
  size : A.tmps.size = N
  defers : A.defers = []
  x : A.eval (.tmp 2) = .pointer (some ⟨n, 0, none⟩)
  y : A.eval (.tmp 3) = .pointer (some ⟨n + 1, 0, none⟩)
theorem Fr.put {A : Act} {N n : Nat} (h : Fr A N n) {d : Nat} {v : Value} (hd : 3 < d) : Fr (A.put (some d) v) N n :=
  ⟨(put_size d v).trans h.size, h.defers, (put_other (by omega)).trans h.x, (put_other (by omega)).trans h.y⟩

section
variable {ops : Array Oper} {Q : Exit → Act → World → Prop} {A : Act} {w : World} {rest : List Oper}

theorem first_group {N p n j : Nat} {r : Bool} {T : TypeId} {u v : Value} {o1 o2 o3 o4 o5 : Oper} (F : Fr A N n) (h4 : 3 < p) (hN : p + 4 < N)
    (e1 : o1.dst = some p ∧ o1.op = .fieldAddr 29 (.tmp 2) j ∧ o1.guard = none) (e2 : o2.dst = some (p + 1) ∧ o2.op = .load T (.tmp p) ∧ o2.guard = none)
    (e3 : o3.dst = some (p + 2) ∧ o3.op = .fieldAddr 29 (.tmp 3) j ∧ o3.guard = none) (e4 : o4.dst = some (p + 3) ∧ o4.op = .load T (.tmp (p + 2)) ∧ o4.guard = none)
    (e5 : o5.dst = some (p + 4) ∧ o5.op = .binOp .neq T (.tmp (p + 1)) (.tmp (p + 3)) T ∧ o5.guard = none)
    (hj : j < 25) (hT : (isAgg T).run Tryz.prog w = .ok false w) (cu : w.cell? ⟨n, j, none⟩ = some u) (cv : w.cell? ⟨n + 1, j, none⟩ = some v)
    (h1 : ∀ x y, (eqGuard .neq T x y u v).run Tryz.prog w = .ok () w) (h2 : (binOp .neq T u v).run Tryz.prog w = .ok (.bool r) w)
    (h : ∀ A', Fr A' N n → A'.eval (.tmp (p + 4)) = .bool r → wpList Tryz.prog ops Q rest A' w) : wpList Tryz.prog ops Q (o1 :: o2 :: o3 :: o4 :: o5 :: rest) A w := by
  have hs := F.size
  refine st_yes (wanted_none e1.2.2) e1.1 (ex_field e1.2.1 hj F.x) ?_
  refine st_yes (wanted_none e2.2.2) e2.1 (ex_load e2.2.1 hT (put_same (by omega)) cu) ?_
  refine st_yes (wanted_none e3.2.2) e3.1 (ex_field e3.2.1 hj ((F.put (d := p) h4).put (d := p + 1) (by omega)).y) ?_
  refine st_yes (wanted_none e4.2.2) e4.1 (ex_load e4.2.1 hT (put_same (by simp only [put_size]; omega)) cv) ?_
  refine st_yes (wanted_none e5.2.2) e5.1 (ex_neq e5.2.1 ?_ (put_same (by simp only [put_size]; omega)) (h1 _ _) h2) ?_
  · exact (put_other (by omega)).trans ((put_other (by omega)).trans (put_same (by simp only [put_size]; omega)))
  · exact h _ (((((F.put (d := p) h4).put (d := p + 1) (by omega)).put (d := p + 2) (by omega)).put (d := p + 3) (by omega)).put (d := p + 4) (by omega)) (put_same (by simp only [put_size]; omega))

set_option maxHeartbeats 1600000 in
theorem or_group {N p n j g : Nat} {r r2 : Bool} {T : TypeId} {u v : Value} {o1 o2 o3 o4 o5 o6 o7 : Oper} (F : Fr A N n) (hp : A.eval (.tmp p) = .bool r) (h4 : 3 < p) (hN : p + 7 < N)
    (e1 : o1.dst = some (p + 1) ∧ o1.op = .move (.tmp p) ∧ o1.guard = none)
    (e2 : o2.dst = some (p + 2) ∧ o2.op = .fieldAddr 29 (.tmp 2) j ∧ o2.guard = some (g, false)) (e3 : o3.dst = some (p + 3) ∧ o3.op = .load T (.tmp (p + 2)) ∧ o3.guard = some (g, false))
    (e4 : o4.dst = some (p + 4) ∧ o4.op = .fieldAddr 29 (.tmp 3) j ∧ o4.guard = some (g, false)) (e5 : o5.dst = some (p + 5) ∧ o5.op = .load T (.tmp (p + 4)) ∧ o5.guard = some (g, false))
    (e6 : o6.dst = some (p + 6) ∧ o6.op = .binOp .neq T (.tmp (p + 3)) (.tmp (p + 5)) T ∧ o6.guard = some (g, false))
    (e7 : o7.dst = some (p + 7) ∧ o7.op = .pick (.tmp (p + 1)) (.const (.bool true)) (.tmp (p + 6)) ∧ o7.guard = none)
    (hg : (ops[g]?).bind (·.dst) = some (p + 1))
    (hj : j < 25) (hT : (isAgg T).run Tryz.prog w = .ok false w) (cu : w.cell? ⟨n, j, none⟩ = some u) (cv : w.cell? ⟨n + 1, j, none⟩ = some v)
    (h1 : ∀ x y, (eqGuard .neq T x y u v).run Tryz.prog w = .ok () w) (h2 : (binOp .neq T u v).run Tryz.prog w = .ok (.bool r2) w)
    (h : ∀ A', Fr A' N n → A'.eval (.tmp (p + 7)) = .bool (r || r2) → wpList Tryz.prog ops Q rest A' w) : wpList Tryz.prog ops Q (o1 :: o2 :: o3 :: o4 :: o5 :: o6 :: o7 :: rest) A w := by
  have hs := F.size
  have F1 := F.put (d := p + 1) (v := .bool r) (by omega)
  refine st_yes (v := .bool r) (wanted_none e1.2.2) e1.1 (by rw [BigFrame.run_move _ e1.2.1, hp]) ?_
  have hv : (A.put (some (p + 1)) (.bool r)).eval (.tmp (p + 1)) = .bool r := put_same (by omega)
  generalize A.put (some (p + 1)) (.bool r) = B at *
  have hb := F1.size
  cases r
  · refine st_yes (by rw [wanted_some e2.2.2 hg (by omega) hv]; rfl) e2.1 (ex_field e2.2.1 hj F1.x) ?_
    have k1 : ∀ x, (B.put (some (p + 2)) x).eval (.tmp (p + 1)) = .bool false := fun x => (put_other (by omega)).trans hv
    refine st_yes (by rw [wanted_some e3.2.2 hg (by simp only [put_size]; omega) (k1 _)]; rfl) e3.1 (ex_load e3.2.1 hT (put_same (by omega)) cu) ?_
    have k2 : ∀ x y, ((B.put (some (p + 2)) x).put (some (p + 3)) y).eval (.tmp (p + 1)) = .bool false := fun x y => (put_other (by omega)).trans (k1 x)
    refine st_yes (by rw [wanted_some e4.2.2 hg (by simp only [put_size]; omega) (k2 _ _)]; rfl) e4.1 (ex_field e4.2.1 hj ((F1.put (d := p + 2) (by omega)).put (d := p + 3) (by omega)).y) ?_
    have k3 : ∀ x y z, (((B.put (some (p + 2)) x).put (some (p + 3)) y).put (some (p + 4)) z).eval (.tmp (p + 1)) = .bool false := fun x y z => (put_other (by omega)).trans (k2 x y)
    refine st_yes (by rw [wanted_some e5.2.2 hg (by simp only [put_size]; omega) (k3 _ _ _)]; rfl) e5.1 (ex_load e5.2.1 hT (put_same (by simp only [put_size]; omega)) cv) ?_
    have k4 : ∀ x y z t, ((((B.put (some (p + 2)) x).put (some (p + 3)) y).put (some (p + 4)) z).put (some (p + 5)) t).eval (.tmp (p + 1)) = .bool false := fun x y z t => (put_other (by omega)).trans (k3 x y z)
    refine st_yes (by rw [wanted_some e6.2.2 hg (by simp only [put_size]; omega) (k4 _ _ _ _)]; rfl) e6.1 (ex_neq e6.2.1 ?_ (put_same (by simp only [put_size]; omega)) (h1 _ _) h2) ?_
    · exact (put_other (by omega)).trans ((put_other (by omega)).trans (put_same (by simp only [put_size]; omega)))
    · refine st_yes (v := .bool r2) (wanted_none e7.2.2) e7.1 ?_ ?_
      · refine (ex_pick e7.2.1 (r := false) ((put_other (by omega)).trans (k4 _ _ _ _))).trans ?_
        rw [if_neg (by decide)]
        exact congrArg (fun v => Result.ok (Next.value v) w) (put_same (by simp only [put_size]; omega))
      · exact h _ ((((((F1.put (d := p + 2) (by omega)).put (d := p + 3) (by omega)).put (d := p + 4) (by omega)).put (d := p + 5) (by omega)).put (d := p + 6) (by omega)).put (d := p + 7) (by omega)) ((put_same (by simp only [put_size]; omega)).trans (by simp))
  · refine st_no (by rw [wanted_some e2.2.2 hg (by omega) hv]; rfl) e2.1 ?_
    have k1 : ∀ x, (B.put (some (p + 2)) x).eval (.tmp (p + 1)) = .bool true := fun x => (put_other (by omega)).trans hv
    refine st_no (by rw [wanted_some e3.2.2 hg (by simp only [put_size]; omega) (k1 _)]; rfl) e3.1 ?_
    have k2 : ∀ x y, ((B.put (some (p + 2)) x).put (some (p + 3)) y).eval (.tmp (p + 1)) = .bool true := fun x y => (put_other (by omega)).trans (k1 x)
    refine st_no (by rw [wanted_some e4.2.2 hg (by simp only [put_size]; omega) (k2 _ _)]; rfl) e4.1 ?_
    have k3 : ∀ x y z, (((B.put (some (p + 2)) x).put (some (p + 3)) y).put (some (p + 4)) z).eval (.tmp (p + 1)) = .bool true := fun x y z => (put_other (by omega)).trans (k2 x y)
    refine st_no (by rw [wanted_some e5.2.2 hg (by simp only [put_size]; omega) (k3 _ _ _)]; rfl) e5.1 ?_
    have k4 : ∀ x y z t, ((((B.put (some (p + 2)) x).put (some (p + 3)) y).put (some (p + 4)) z).put (some (p + 5)) t).eval (.tmp (p + 1)) = .bool true := fun x y z t => (put_other (by omega)).trans (k3 x y z)
    refine st_no (by rw [wanted_some e6.2.2 hg (by simp only [put_size]; omega) (k4 _ _ _ _)]; rfl) e6.1 ?_
    refine st_yes (v := .bool true) (wanted_none e7.2.2) e7.1 ?_ ?_
    · refine (ex_pick e7.2.1 (r := true) ((put_other (by omega)).trans (k4 _ _ _ _))).trans ?_
      rw [if_pos rfl]; rfl
    · exact h _ ((((((F1.put (d := p + 2) (by omega)).put (d := p + 3) (by omega)).put (d := p + 4) (by omega)).put (d := p + 5) (by omega)).put (d := p + 6) (by omega)).put (d := p + 7) (by omega)) ((put_same (by simp only [put_size]; omega)).trans (by simp))
end
end Go.Proofs.YtfegdblaohhdoaaGreatDoor.Or
namespace Go.Proofs.YtfegdblaohhdoaaGreatDoor.Cnt
open Go.ChangeShapes Go.WideShapes Go.ChangeAt Go.RowKit
open Go.Proofs.YtfegdblaohhdoaaGreatDoor.Ms
open Go.Proofs.YtfegdblaohhdoaaGreatDoor.Box
open Go.Proofs.YtfegdblaohhdoaaGreatDoor.Same
set_option linter.unusedVariables false
set_option maxRecDepth 100000

/-- The bytes of Subs. -/
def bytesN (l : List El) : Nat := (l.map fun x => 2 + x.1.size).sum
theorem bytes_take (l : List El) (k : Nat) (h : k < l.length) : bytesN (l.take (k + 1)) = bytesN (l.take k) + (2 + l[k].1.size) := by
  unfold bytesN
  rw [List.take_succ_eq_append_getElem h, List.map_append, List.sum_append]
  simp only [List.map_cons, List.map_nil, List.sum_cons, List.sum_nil, Nat.add_zero]
theorem bytes_le (l : List El) (k : Nat) : bytesN (l.take k) ≤ bytesN l := by
  conv => rhs; rw [← List.take_append_drop k l]
  unfold bytesN
  rw [List.map_append, List.sum_append]
  omega
theorem int_eq {k : IntKind} {a b : Int} (h : a = b) : Ending.returned (.int k a) = .returned (.int k b) := by rw [h]

set_option maxHeartbeats 1600000 in
theorem bytes_any (a : Option Addr) (c : Nat) (l : List El) (w : World) (hl : SRow w a l) (ln : l.length ≤ 1048576) (lb : bytesN l ≤ 1099511627776) :
    Calls Tryz.prog 93 #[.slice a l.length c] w fun e w' => e = .returned (.int .i64 (bytesN l : Nat)) ∧ Below w.heap.size w w' := by
  have LB := Lib.hid lb
  clear lb
  go_enter Tryz.func93, Tryz.ntmps93
  go_wp2
  go_loopw [3, 8] (fun n i wr => ∃ k : Nat, k ≤ l.length ∧ i = .int .i64 k ∧ n = .int .i64 (bytesN (l.take k) : Nat) ∧ Hid (Below w.heap.size w wr)) (fun _ i _ => l.length - (intOf i).toNat)
  case atStart => exact ⟨0, Nat.zero_le _, rfl, rfl, Lib.hid (Below.refl _ _)⟩
  case round =>
    obtain ⟨k, hk, rfl, rfl, HB⟩ := hrel
    by_cases hlt : k < l.length
    · obtain ⟨p, rfl, hp, c0, c1⟩ := (hl.below HB.out) k hlt
      have HT := Lib.hid (bytes_take l k hlt)
      have HM := Lib.hid (bytes_le l (k + 1))
      have hs : l[k].1.size ≤ 1099511627776 ∧ bytesN (l.take k) ≤ 1099511627776 := by have := HT.out; have := HM.out; have := LB.out; omega
      obtain ⟨hs, hs2⟩ := hs
      clear hl
      rw [add_one] at c1
      generalize l[k] = u at *
      generalize hq : bytesN (l.take k) = q at *
      clear hq
      go_wp2
      go_roundw
      case rel => exact ⟨k + 1, hlt, by go_num, by rw [HT.out]; congr 1, Lib.hid ((HB.out.alloc HB.out.size _))⟩
      case measure => simp [intOf]; omega
    · obtain rfl : k = l.length := by omega
      go_wp2
      go_ret
      exact ⟨int_eq (by rw [List.take_length]), HB.out⟩
set_option maxHeartbeats 1600000 in
theorem rbytes_any (a : Option Addr) (c : Nat) (l : List El) (w : World) (hl : SRow w a l) (ln : l.length ≤ 1048576) (lb : bytesN l ≤ 1099511627776) :
    Calls Tryz.prog 104 #[.slice a l.length c] w fun e w' => e = .returned (.int .i64 (bytesN l : Nat)) ∧ Below w.heap.size w w' := by
  have LB := Lib.hid lb
  clear lb
  go_enter Tryz.func104, Tryz.ntmps104
  go_wp2
  go_loopw [3, 4] (fun n i wr => ∃ k : Nat, k ≤ l.length ∧ i = .int .i64 k ∧ n = .int .i64 (bytesN (l.take k) : Nat) ∧ Hid (Below w.heap.size w wr)) (fun _ i _ => l.length - (intOf i).toNat)
  case atStart => exact ⟨0, Nat.zero_le _, rfl, rfl, Lib.hid (Below.refl _ _)⟩
  case round =>
    obtain ⟨k, hk, rfl, rfl, HB⟩ := hrel
    by_cases hlt : k < l.length
    · obtain ⟨p, rfl, hp, c0, c1⟩ := (hl.below HB.out) k hlt
      have HT := Lib.hid (bytes_take l k hlt)
      have HM := Lib.hid (bytes_le l (k + 1))
      have hs : l[k].1.size ≤ 1099511627776 ∧ bytesN (l.take k) ≤ 1099511627776 := by have := HT.out; have := HM.out; have := LB.out; omega
      obtain ⟨hs, hs2⟩ := hs
      clear hl
      rw [add_one] at c1
      generalize l[k] = u at *
      generalize hq : bytesN (l.take k) = q at *
      clear hq
      go_wp2
      go_roundw
      case rel => exact ⟨k + 1, hlt, by go_num, by rw [HT.out]; congr 1; push_cast; omega, HB⟩
      case measure => simp [intOf]; omega
    · obtain rfl : k = l.length := by omega
      go_wp2
      go_ret
      exact ⟨int_eq (by rw [List.take_length]), HB.out⟩
/-- May the Subs be? -/
def mayB (l : List El) (lo hi : Int) : Bool := l.all fun x => decide (lo ≤ x.2) && (decide (x.2 ≤ hi) && decide (x.1.size ≤ 255))
theorem may_take (l : List El) (lo hi : Int) (k : Nat) (h : k < l.length) : mayB (l.take (k + 1)) lo hi = (mayB (l.take k) lo hi && (decide (lo ≤ l[k].2) && (decide (l[k].2 ≤ hi) && decide (l[k].1.size ≤ 255)))) := by
  unfold mayB
  rw [List.take_succ_eq_append_getElem h, List.all_append]
  simp
theorem may_not (l : List El) (lo hi : Int) (k : Nat) (h : k < l.length) (hn : (decide (lo ≤ l[k].2) && (decide (l[k].2 ≤ hi) && decide (l[k].1.size ≤ 255))) = false) : mayB l lo hi = false := by
  unfold mayB
  rw [List.all_eq_false]
  exact ⟨l[k], List.getElem_mem h, by rw [hn]; simp⟩

set_option maxHeartbeats 1600000 in
theorem may_any (a : Option Addr) (c : Nat) (l : List El) (lo hi : Int) (w : World) (hl : SRow w a l) (ln : l.length ≤ 1048576) (lb : ∀ x ∈ l, x.1.size ≤ 1099511627776) :
    Calls Tryz.prog 92 #[.slice a l.length c, .int .i64 lo, .int .i64 hi] w fun e w' => e = .returned (.bool (mayB l lo hi)) ∧ Below w.heap.size w w' := by
  have LB := Lib.hid lb
  clear lb
  go_enter Tryz.func92, Tryz.ntmps92
  go_wp2
  go_loopw [11] (fun i wr => ∃ k : Nat, k ≤ l.length ∧ i = .int .i64 k ∧ Hid (mayB (l.take k) lo hi = true) ∧ Hid (Below w.heap.size w wr)) (fun i _ => l.length - (intOf i).toNat)
  case atStart => exact ⟨0, Nat.zero_le _, rfl, Lib.hid rfl, Lib.hid (Below.refl _ _)⟩
  case round =>
    obtain ⟨k, hk, rfl, HN, HB⟩ := hrel
    by_cases hlt : k < l.length
    · obtain ⟨p, rfl, hp, c0, c1⟩ := (hl.below HB.out) k hlt
      have HT := Lib.hid (may_take l lo hi k hlt)
      have HF := Lib.hid (may_not l lo hi k hlt)
      have hs := LB.out _ (List.getElem_mem hlt)
      have HBA := Lib.hid (fun o => HB.out.alloc HB.out.size o)
      clear hl
      rw [add_one] at c1
      generalize l[k] = u at *
      obtain ⟨s, n⟩ := u
      by_cases h1 : n < lo
      · go_wp2
        go_ret
        exact ⟨bool_eq (by symm; apply HF.out; simp; omega), HBA.out _⟩
      · by_cases h2 : hi < n
        · go_wp2
          go_ret
          exact ⟨bool_eq (by symm; apply HF.out; simp; omega), HBA.out _⟩
        · by_cases h3 : 255 < s.size
          · go_wp2
            go_ret
            exact ⟨bool_eq (by symm; apply HF.out; simp; omega), HBA.out _⟩
          · go_wp2
            go_roundw
            case rel => exact ⟨k + 1, hlt, by go_num, Lib.hid (by rw [HT.out, HN.out]; simp; omega), Lib.hid (HBA.out _)⟩
            case measure => simp [intOf]; omega
    · obtain rfl : k = l.length := by omega
      go_wp2
      go_ret
      exact ⟨bool_eq (by have := HN.out; rw [List.take_length] at this; exact this.symm), HB.out⟩

end Go.Proofs.YtfegdblaohhdoaaGreatDoor.Cnt
namespace Go.Proofs.YtfegdblaohhdoaaGreatDoor.S1
open Go.ChangeShapes Go.WideShapes Go.ChangeAt Go.RowKit
open Go.Proofs.YtfegdblaohhdoaaGreatDoor.Ms (El)
open Go.Proofs.YtfegdblaohhdoaaGreatDoor.Cnt (bytesN mayB)
open Go.Proofs.YtfegdblaohhdoaaGreatDoor.F1 (enc1 encT ok1 okT outT placed cut1 encT_nil encT_cons encT_snoc enc1_len okT_nil okT_snoc okT_append okT_cons out_yes out_no out_cases size_of len_le placed_len)
set_option linter.unusedVariables false
set_option maxRecDepth 100000
set_option maxRecDepth 100000

/-- Is it kept? -/
def keepB (x : El) : Bool := decide (2 ≤ x.2) && decide (x.2 ≤ 127)
/-- Those that are kept. -/
def keep (l : List El) : List El := l.filter keepB
/-- Need none be known? -/
def knownB (l : List El) : Bool := l.all fun x => decide (x.2 ≤ 127)
/-- May the Subs be? -/
def okS (l : List El) : Bool := mayB l 2 127 && decide (bytesN l ≤ 200)
/-- Their bytes; none. -/
def putS (l : List El) : ByteArray := if okS l then ⟨(encT l).toArray⟩ else ⟨#[]⟩
theorem putS_yes {l : List El} (h : okS l = true) : putS l = ⟨(encT l).toArray⟩ := by unfold putS; rw [if_pos h]
theorem putS_no {l : List El} (h : okS l = false) : putS l = ⟨#[]⟩ := by unfold putS; rw [if_neg (by rw [h]; exact Bool.false_ne_true)]

theorem may_mem {l : List El} {lo hi : Int} (h : mayB l lo hi = true) : ∀ x ∈ l, lo ≤ x.2 ∧ x.2 ≤ hi ∧ x.1.size ≤ 255 := by
  unfold mayB at h
  rw [List.all_eq_true] at h
  intro x hx
  simpa using h x hx
theorem may_of {l : List El} {lo hi : Int} (h : ∀ x ∈ l, lo ≤ x.2 ∧ x.2 ≤ hi ∧ x.1.size ≤ 255) : mayB l lo hi = true := by
  unfold mayB
  rw [List.all_eq_true]
  intro x hx
  simpa using h x hx
theorem okS_may {l : List El} (h : okS l = true) : mayB l 2 127 = true := by unfold okS at h; rw [Bool.and_eq_true] at h; exact h.1
theorem okS_size {l : List El} (h : okS l = true) : bytesN l ≤ 200 := by unfold okS at h; rw [Bool.and_eq_true, decide_eq_true_eq] at h; exact h.2
theorem okS_of {l : List El} (h : mayB l 2 127 = true) (h2 : bytesN l ≤ 200) : okS l = true := by unfold okS; rw [h, decide_eq_true h2]; rfl
theorem bytesN_cons (x : El) (l : List El) : bytesN (x :: l) = 2 + x.1.size + bytesN l := by simp [bytesN]
theorem bytesN_len (l : List El) : 2 * l.length ≤ bytesN l := by
  induction l with
  | nil => exact Nat.le_refl _
  | cons x l ih => rw [bytesN_cons, List.length_cons]; omega
theorem bytesN_most {l : List El} {lo hi : Int} (h : mayB l lo hi = true) : bytesN l ≤ 257 * l.length := by
  have hm := may_mem h
  clear h
  induction l with
  | nil => exact Nat.le_refl _
  | cons x l ih =>
    have := ih (fun y hy => hm y (by simp [hy]))
    have := (hm x (by simp)).2.2
    rw [bytesN_cons, List.length_cons]; omega
theorem may_take {l : List El} {lo hi : Int} (h : mayB l lo hi = true) (k : Nat) : mayB (l.take k) lo hi = true := may_of fun x hx => may_mem h x (List.mem_of_mem_take hx)
theorem may_okT {l : List El} (h : mayB l 2 127 = true) : okT l := fun x hx => by
  obtain ⟨a, b, c⟩ := may_mem h x hx
  exact ⟨by omega, by omega, c, fun h => by omega⟩
theorem keep_self {l : List El} (h : mayB l 2 127 = true) : keep l = l := List.filter_eq_self.2 fun x hx => by
  obtain ⟨a, b, c⟩ := may_mem h x hx
  unfold keepB
  simp [a, b]
theorem known_self {l : List El} (h : mayB l 2 127 = true) : knownB l = true := List.all_eq_true.2 fun x hx => by
  obtain ⟨a, b, c⟩ := may_mem h x hx
  simpa using b
theorem keep_may {l : List El} (h : okT l) : mayB (keep l) 2 127 = true := may_of fun x hx => by
  obtain ⟨h1, h2⟩ := List.mem_filter.1 hx
  unfold keepB at h2
  rw [Bool.and_eq_true, decide_eq_true_eq, decide_eq_true_eq] at h2
  exact ⟨h2.1, h2.2, (h x h1).2.2.1⟩
theorem keep_append (a b : List El) : keep (a ++ b) = keep a ++ keep b := List.filter_append ..
theorem keep_yes {x : El} (h : keepB x = true) (l : List El) : keep (l ++ [x]) = keep l ++ [x] := by rw [keep_append]; unfold keep; simp [h]
theorem keep_no {x : El} (h : keepB x = false) (l : List El) : keep (l ++ [x]) = keep l := by rw [keep_append]; unfold keep; simp [h]
theorem known_append (a b : List El) : knownB (a ++ b) = (knownB a && knownB b) := List.all_append ..
theorem known_one (x : El) : knownB [x] = decide (x.2 ≤ 127) := by unfold knownB; simp
theorem known_snoc (l : List El) (x : El) : knownB (l ++ [x]) = (knownB l && decide (x.2 ≤ 127)) := by rw [known_append, known_one]
theorem enc_len {l : List El} (h : mayB l 2 127 = true) : (encT l).length = bytesN l := by
  have hm := may_mem h
  clear h
  induction l with
  | nil => rfl
  | cons x l ih =>
    have h1 := hm x (by simp)
    rw [encT_cons, List.length_append, enc1_len, if_neg (by omega), ih (fun y hy => hm y (by simp [hy])), bytesN_cons]
theorem keep_size (l : List El) : bytesN (keep l) ≤ (encT l).length := by
  induction l with
  | nil => exact Nat.le_refl _
  | cons x l ih =>
    rw [encT_cons, List.length_append, enc1_len]
    unfold keep at *
    rw [List.filter_cons]
    cases hk : keepB x
    · simp only [Bool.false_eq_true, if_false]
      split <;> omega
    · have : ¬ x.2 = 0 := by unfold keepB at hk; simp at hk; omega
      rw [if_pos rfl, bytesN_cons, if_neg this]
      omega
theorem keep_len (l : List El) : (keep l).length ≤ l.length := List.length_filter_le ..
theorem okS_take {l : List El} (h : okS l = true) (k : Nat) : okS (l.take k) = true :=
  okS_of (may_take (okS_may h) k) (Nat.le_trans (Cnt.bytes_le l k) (okS_size h))
theorem okS_mem {l : List El} (h : okS l = true) : ∀ x ∈ l, x.1.size ≤ 1099511627776 := fun x hx => by
  have := (may_mem (okS_may h) x hx).2.2
  omega
theorem okS_len {l : List El} (h : okS l = true) : l.length ≤ 100 := by
  have := okS_size h
  have := bytesN_len l
  omega
theorem putS_size {l : List El} (h : okS l = true) : (putS l).size = bytesN l := by
  rw [putS_yes h, ← enc_len (okS_may h)]
  exact List.size_toArray ..
theorem putS_le (l : List El) : (putS l).size ≤ 200 := by
  cases h : okS l
  · rw [putS_no h]; exact Nat.zero_le _
  · rw [putS_size h]; exact okS_size h

/-- Those that are kept, whether none must be known, and the error. -/
noncomputable def outS (s : ByteArray) : List El × Bool × Int :=
  if (outT 0 s).2.2 = 0 then (if bytesN (keep ((outT 0 s).1.map Prod.snd)) ≤ 200 then (keep ((outT 0 s).1.map Prod.snd), knownB ((outT 0 s).1.map Prod.snd), 0) else ([], false, 10)) else ([], false, (outT 0 s).2.2)
theorem placed_snd : ∀ (l : List El) (p : Int), (placed p l).map Prod.snd = l
  | [], _ => rfl
  | x :: l, p => by rw [placed, List.map_cons, placed_snd]
theorem outS_of {s : ByteArray} {l : List El} (h : outT 0 s = (placed 0 l, 0, 0)) : outS s = if bytesN (keep l) ≤ 200 then (keep l, knownB l, 0) else ([], false, 10) := by
  unfold outS
  rw [h, placed_snd, if_pos rfl]
theorem outS_bad {s : ByteArray} {p : Int} (h : outT 0 s = ([], p, 2)) : outS s = ([], false, 2) := by
  unfold outS
  rw [h, if_neg (show ¬ (2 : Int) = 0 by decide)]
theorem outS_yes {s : ByteArray} {l : List El} (ho : okT l) (hs : s.data.toList = encT l) (hb : bytesN (keep l) ≤ 200) : outS s = (keep l, knownB l, 0) := by
  rw [outS_of (out_yes ho hs), if_pos hb]
theorem outS_cases (s : ByteArray) : (∃ l, okT l ∧ s.data.toList = encT l ∧ outT 0 s = (placed 0 l, 0, 0) ∧ ((bytesN (keep l) ≤ 200 ∧ outS s = (keep l, knownB l, 0)) ∨ (200 < bytesN (keep l) ∧ outS s = ([], false, 10)))) ∨
    ∃ p, outT 0 s = ([], p, 2) ∧ outS s = ([], false, 2) := by
  rcases out_cases 0 s with ⟨l, ho, hs, e⟩ | ⟨l, r, _, _, _, _, e⟩
  · refine .inl ⟨l, ho, hs, e, ?_⟩
    by_cases hb : bytesN (keep l) ≤ 200
    · exact .inl ⟨hb, outS_yes ho hs hb⟩
    · exact .inr ⟨by omega, by rw [outS_of e, if_neg hb]⟩
  · exact .inr ⟨_, e, outS_bad e⟩
theorem put_out {l : List El} (h : okS l = true) : outS (putS l) = (l, true, 0) := by
  have hm := okS_may h
  rw [putS_yes h, outS_yes (may_okT hm) rfl (by rw [keep_self hm]; exact okS_size h), keep_self hm, known_self hm]
/-- What is told of bytes may be, and has no more of them. -/
theorem outS_ok (s : ByteArray) : okS (outS s).1 = true ∧ (putS (outS s).1).size ≤ s.size := by
  rcases outS_cases s with ⟨l, ho, hs, _, ⟨hb, e⟩ | ⟨_, e⟩⟩ | ⟨p, _, e⟩
  · rw [e]
    have hk := okS_of (keep_may ho) hb
    refine ⟨hk, ?_⟩
    rw [putS_size hk, size_of hs]
    exact keep_size l
  · rw [e]; exact ⟨rfl, by rw [putS_yes rfl]; exact Nat.zero_le _⟩
  · rw [e]; exact ⟨rfl, by rw [putS_yes rfl]; exact Nat.zero_le _⟩
end Go.Proofs.YtfegdblaohhdoaaGreatDoor.S1
namespace Go.Proofs.YtfegdblaohhdoaaGreatDoor.Lk
open Go.ChangeShapes Go.WideShapes Go.ChangeAt Go.RowKit
open Go.Proofs.YtfegdblaohhdoaaGreatDoor.Nu (text_eq)
set_option linter.unusedVariables false
set_option maxRecDepth 100000
set_option maxRecDepth 100000

theorem below_drewN {B : Nat} {a w : World} (h : Below B a w) (n : Nat) : Below B a (w.drewN n) := ⟨h.os, h.tape, h.output, h.size, h.block⟩
theorem bool_eq {a b : Bool} (h : a = b) : Ending.returned (.bool a) = .returned (.bool b) := by rw [h]
def lkH : ByteArray := ⟨#[254, 128, 0, 0, 0, 0, 0, 0]⟩
def lkB (s : ByteArray) : Bool := (s.extract 0 8).toList == [254, 128, 0, 0, 0, 0, 0, 0]
def link (s : ByteArray) : Bool := decide (s.size = 16) && lkB s
theorem link_yes {s : ByteArray} (h : s.size = 16) : link s = lkB s := by unfold link; rw [decide_eq_true h]; rfl
theorem link_no {s : ByteArray} (h : s.size ≠ 16) : link s = false := by unfold link; rw [decide_eq_false h]; rfl
/-- The short form, the long one. -/
def shA (a : ByteArray) : ByteArray := if link a then a.extract 8 a.size else ⟨#[]⟩
def lgO (a : ByteArray) : Bool := decide (a.size = 8)
def lgA (a : ByteArray) : ByteArray := if a.size = 8 then lkH ++ a else ⟨#[]⟩
theorem link_size {a : ByteArray} (h : link a = true) : a.size = 16 := by unfold link at h; simp at h; exact h.1
theorem link_head {a : ByteArray} (h : link a = true) : a.extract 0 8 = lkH := by
  unfold link lkB at h
  simp only [Bool.and_eq_true, beq_iff_eq] at h
  refine text_eq ?_
  rw [← ByteArray.toList_eq, h.2]
  rfl
theorem sh_yes {a : ByteArray} (h : link a = true) : shA a = a.extract 8 a.size := by unfold shA; rw [if_pos h]
theorem sh_size {a : ByteArray} (h : link a = true) : (shA a).size = 8 := by
  have := link_size h
  rw [sh_yes h]; simp; omega
theorem lg_sh {a : ByteArray} (h : link a = true) : lgA (shA a) = a := by
  unfold lgA
  rw [if_pos (sh_size h), sh_yes h, ← link_head h]
  have := link_size h
  rw [ByteArray.extract_append_extract]
  refine text_eq ?_
  simp
theorem link_lg {s : ByteArray} (h : s.size = 8) : link (lgA s) = true ∧ shA (lgA s) = s := by
  have e : lgA s = lkH ++ s := by unfold lgA; rw [if_pos h]
  have hz : (lkH ++ s).size = 16 := by rw [ByteArray.size_append, h]; rfl
  have h1 : link (lkH ++ s) = true := by
    rw [link_yes hz]
    unfold lkB
    rw [show (lkH ++ s).extract 0 8 = lkH from ByteArray.extract_append_eq_left rfl]
    rw [ByteArray.toList_eq]
    rfl
  rw [e]
  refine ⟨h1, ?_⟩
  rw [sh_yes h1]
  exact ByteArray.extract_append_eq_right rfl (by rw [ByteArray.size_append])

/- What the library's HasPrefix answers of sixteen bytes. -/
theorem lite_any (s : ByteArray) (h : s.size = 16) (w : World) :
    Calls Tryz.prog 149 #[.string s, .string ⟨#[254, 128, 0, 0, 0, 0, 0, 0]⟩] w fun e w' => e = .returned (.bool (lkB s)) ∧ w' = w := by
  unfold lkB
  go_enter Tryz.func149, Tryz.ntmps149
  go_wp2
  go_ret
  exact ⟨rfl, rfl⟩
theorem pre_any (s : ByteArray) (h : s.size = 16) (w : World) :
    Calls Tryz.prog 143 #[.string s, .string ⟨#[254, 128, 0, 0, 0, 0, 0, 0]⟩] w fun e w' => e = .returned (.bool (lkB s)) ∧ w' = w := by
  have P1 := Lib.hid (fun w => lite_any s h w)
  go_enter Tryz.func143, Tryz.ntmps143
  go_wp2_with fail
  refine (P1.out _).mono ?_
  rintro e w' ⟨rfl, rfl⟩
  go_wp2
  go_ret
  exact ⟨rfl, rfl⟩
theorem family_yes (s : ByteArray) (h : s.size = 16) (w : World) :
    Calls Tryz.prog 98 #[.string s] w fun e w' => e = .returned (.int .i64 1) ∧ w' = w := by
  have e0 : ((s.size : Int) == 4) = false := by rw [beq_eq_false_iff_ne]; omega
  have e1 : ((s.size : Int) == 16) = true := by rw [beq_iff_eq]; omega
  clear h
  go_enter Tryz.func98, Tryz.ntmps98
  go_wp2
  go_ret
  exact ⟨rfl, rfl⟩
theorem family_no (s : ByteArray) (h : s.size ≠ 16) (w : World) :
    Calls Tryz.prog 98 #[.string s] w fun e w' => (e = .returned (.int .i64 0) ∨ e = .returned (.int .i64 (-1))) ∧ w' = w := by
  have e1 : ((s.size : Int) == 16) = false := by rw [beq_eq_false_iff_ne]; omega
  by_cases h4 : s.size = 4
  · have e0 : ((s.size : Int) == 4) = true := by rw [beq_iff_eq]; omega
    clear h h4
    go_enter Tryz.func98, Tryz.ntmps98
    go_wp2
    go_ret
    exact ⟨.inl rfl, rfl⟩
  · have e0 : ((s.size : Int) == 4) = false := by rw [beq_eq_false_iff_ne]; omega
    clear h h4
    go_enter Tryz.func98, Tryz.ntmps98
    go_wp2
    go_ret
    exact ⟨.inr rfl, rfl⟩
theorem link_any (s : ByteArray) (w : World) :
    Calls Tryz.prog 127 #[.string s] w fun e w' => e = .returned (.bool (link s)) ∧ w' = w := by
  by_cases h : s.size = 16
  · rw [link_yes h]
    have P1 := Lib.hid (fun w => family_yes s h w)
    have P2 := Lib.hid (fun w => pre_any s h w)
    clear h
    generalize lkB s = x at *
    go_enter Tryz.func127, Tryz.ntmps127
    go_wp2_with fail
    refine (P1.out _).mono ?_
    rintro e w' ⟨rfl, rfl⟩
    go_wp2_with fail
    refine (P2.out _).mono ?_
    rintro e w' ⟨rfl, rfl⟩
    go_wp2
    go_ret
    exact ⟨rfl, rfl⟩
  · rw [link_no h]
    have P1 := Lib.hid (fun w => family_no s h w)
    clear h
    go_enter Tryz.func127, Tryz.ntmps127
    go_wp2_with fail
    refine (P1.out _).mono ?_
    rintro e w' ⟨rfl | rfl, rfl⟩
    all_goals
      go_wp2
      go_ret
      exact ⟨rfl, rfl⟩
theorem rl_any (w : World) : Calls Tryz.prog 43 #[] w fun e w' => e = .returned (.string lkH) ∧ w' = w := by
  go_enter Tryz.func43, Tryz.ntmps43
  go_wp2
  go_ret
  exact ⟨rfl, rfl⟩
theorem lkB_eq (s : ByteArray) : ((s.extract 0 8).toList == lkH.toList) = lkB s := by
  unfold lkB
  rw [show lkH.toList = [254, 128, 0, 0, 0, 0, 0, 0] by rw [ByteArray.toList_eq]; rfl]
theorem rlink_any (s : ByteArray) (w : World) :
    Calls Tryz.prog 17 #[.string s] w fun e w' => e = .returned (.bool (link s)) ∧ ∃ n, w' = w.drewN n := by
  by_cases h6 : s.size = 16
  · have hs : (8 : Int) ≤ (s.size : Int) := by omega
    have e1 : ((s.size : Int) == 16) = true := by rw [beq_iff_eq]; omega
    have HH := Lib.hid (link_yes h6)
    have HP := Lib.hid (lkB_eq s)
    clear h6
    go_enter Tryz.func17, Tryz.ntmps17
    go_wp2
    go_quiet ((go_at_call 43; exact Calls.quiet_of_same (rl_any _)))
    go_wp2
    go_ret
    refine ⟨bool_eq ?_, _, rfl⟩
    rw [HP.out]
    exact HH.out.symm
  · have e : link s = false := link_no h6
    have e1 : ((s.size : Int) == 16) = false := by rw [beq_eq_false_iff_ne]; omega
    rw [e]
    clear h6 e
    go_enter Tryz.func17, Tryz.ntmps17
    go_wp2
    go_quiet ((go_at_call 43; exact Calls.quiet_of_same (rl_any _)))
    go_wp2
    go_ret
    exact ⟨rfl, _, rfl⟩
theorem rlink_bel (s : ByteArray) (w : World) :
    Calls Tryz.prog 17 #[.string s] w fun e w' => e = .returned (.bool (link s)) ∧ Below w.heap.size w w' := by
  refine (rlink_any s w).mono ?_
  rintro e w' ⟨rfl, n, rfl⟩
  exact ⟨rfl, below_drewN (Below.refl _ _) n⟩
theorem short_any (a : ByteArray) (w : World) :
    Calls Tryz.prog 125 #[.string a] w fun e w' => e = .returned (.tuple #[.string (shA a), .bool (link a)]) ∧ w = w' := by
  have P1 := Lib.hid (fun w => link_any a w)
  cases hl : link a with
  | false =>
    have e : shA a = ⟨#[]⟩ := by unfold shA; rw [hl]; rfl
    rw [e]
    rw [hl] at P1
    clear hl e
    go_enter Tryz.func125, Tryz.ntmps125
    go_wp2_with fail
    refine (P1.out _).mono ?_
    rintro e w' ⟨rfl, rfl⟩
    go_wp2
    go_ret2
    exact ⟨rfl, rfl⟩
  | true =>
    have e : shA a = a.extract 8 a.size := sh_yes hl
    have hs : (8 : Int) ≤ (a.size : Int) := by have := link_size hl; omega
    rw [e]
    rw [hl] at P1
    clear hl e
    go_enter Tryz.func125, Tryz.ntmps125
    go_wp2_with fail
    refine (P1.out _).mono ?_
    rintro e w' ⟨rfl, rfl⟩
    go_wp2
    go_ret2
    exact ⟨rfl, rfl⟩
theorem rlong_any (a : ByteArray) (w : World) :
    Calls Tryz.prog 74 #[.string a] w fun e w' => e = .returned (.tuple #[.string (lgA a), .bool (lgO a)]) ∧ Below w.heap.size w w' := by
  by_cases h : a.size = 8
  · have e1 : lgA a = lkH ++ a := if_pos h
    have e2 : lgO a = true := decide_eq_true h
    have hne : ((a.size : Int) != 8) = false := by rw [h]; rfl
    rw [e1, e2]
    clear e1 e2
    go_enter Tryz.func74, Tryz.ntmps74
    go_wp2
    go_ret2
    exact ⟨rfl, Below.refl _ _⟩
  · have e1 : lgA a = ⟨#[]⟩ := if_neg h
    have e2 : lgO a = false := decide_eq_false h
    have hne : ((a.size : Int) != 8) = true := by rw [bne_iff_ne]; omega
    rw [e1, e2]
    clear e1 e2
    go_enter Tryz.func74, Tryz.ntmps74
    go_wp2
    go_ret2
    exact ⟨rfl, Below.refl _ _⟩
end Go.Proofs.YtfegdblaohhdoaaGreatDoor.Lk
namespace Go.Proofs.YtfegdblaohhdoaaGreatDoor.RSame
open Go.ChangeShapes Go.WideShapes Go.ChangeAt Go.RowKit
open Go.Proofs.YtfegdblaohhdoaaGreatDoor.Ms
open Go.Proofs.YtfegdblaohhdoaaGreatDoor.Box
open Go.Proofs.YtfegdblaohhdoaaGreatDoor.Eq
open Go.Proofs.YtfegdblaohhdoaaGreatDoor.Same
open Go.Proofs.YtfegdblaohhdoaaGreatDoor.SameP
open Go.Proofs.YtfegdblaohhdoaaGreatDoor.Hs
open Go.Proofs.YtfegdblaohhdoaaGreatDoor.Or
set_option linter.unusedVariables false
set_option maxRecDepth 100000

theorem ni (a b : Int) (w : World) : (∀ x y, (eqGuard .neq 3 x y (.int .i64 a) (.int .i64 b)).run Tryz.prog w = .ok () w) ∧ (binOp .neq 3 (.int .i64 a) (.int .i64 b)).run Tryz.prog w = .ok (.bool (a != b)) w :=
  ⟨fun x y => by rw [eqGuard_at_int]; rfl, by rw [binOp_neq]; rfl⟩
theorem ns (a b : ByteArray) (w : World) : (∀ x y, (eqGuard .neq 9 x y (.string a) (.string b)).run Tryz.prog w = .ok () w) ∧ (binOp .neq 9 (.string a) (.string b)).run Tryz.prog w = .ok (.bool (!(a.toList == b.toList))) w :=
  ⟨fun x y => by rw [eqGuard_at_string]; rfl, by rw [binOp_string_neq]; rfl⟩
theorem agg_sl (w : World) : (isAgg 26).run Tryz.prog w = .ok false w ∧ (isAgg 27).run Tryz.prog w = .ok false w := by constructor <;> go_simp
theorem with_frame {c : Code} {Q : Exit → Act → World → Prop} {A : Act} {w : World} {n : Nat} (h : ∀ B, Fr B 174 n → c.wp Tryz.prog Q B w) (F : Fr A 174 n) : c.wp Tryz.prog Q A w := h A F
theorem ret_slot4 {A : Act} {n : Nat} {w w0 : World} {v r : Bool} {fn : Func} (hfn : fn.results = #[.tmp 4]) (F : Fr A 174 n) (hv : A.eval (.tmp 4) = .bool v) (hr : v = r) (hb : Below w0.heap.size w0 w) :
    bodyPost Tryz.prog fn (fun e w' => e = .returned (.bool r) ∧ Below w0.heap.size w0 w') .ret A w :=
  bodyPost_ret (v := .bool v) ((results_tmp hfn _ _ _).trans (congrArg (fun v => Result.ok v w) hv)) F.defers ⟨bool_eq hr, hb⟩

theorem load_two {ops : Array Oper} {Q : Exit → Act → World → Prop} {A : Act} {w : World} {rest : List Oper} {N q n j : Nat} {T : TypeId} {u v : Value} {o1 o2 o3 o4 : Oper} {gd : Option (Nat × Bool)} (F : Fr A N n) (h4 : 3 < q) (hN : q + 3 < N)
    (e1 : o1.dst = some q ∧ o1.op = .fieldAddr 29 (.tmp 2) j ∧ o1.guard = gd) (e2 : o2.dst = some (q + 1) ∧ o2.op = .load T (.tmp q) ∧ o2.guard = gd)
    (e3 : o3.dst = some (q + 2) ∧ o3.op = .fieldAddr 29 (.tmp 3) j ∧ o3.guard = gd) (e4 : o4.dst = some (q + 3) ∧ o4.op = .load T (.tmp (q + 2)) ∧ o4.guard = gd)
    (hw : ∀ B : Act, B.tmps.size = N → (∀ t : Nat, t < q → B.eval (.tmp t) = A.eval (.tmp t)) → ∀ o : Oper, o.guard = gd → Region.wanted o (yielded ops B.tmps) = true)
    (hj : j < 25) (hT : (isAgg T).run Tryz.prog w = .ok false w) (cu : w.cell? ⟨n, j, none⟩ = some u) (cv : w.cell? ⟨n + 1, j, none⟩ = some v)
    (h : ∀ A', Fr A' N n → A'.eval (.tmp (q + 1)) = u → A'.eval (.tmp (q + 3)) = v → (∀ t : Nat, t < q → A'.eval (.tmp t) = A.eval (.tmp t)) → wpList Tryz.prog ops Q rest A' w) : wpList Tryz.prog ops Q (o1 :: o2 :: o3 :: o4 :: rest) A w := by
  have hs := F.size
  have F1 : ∀ x, Fr (A.put (some q) x) N n := fun x => F.put h4
  have F2 : ∀ x y, Fr ((A.put (some q) x).put (some (q + 1)) y) N n := fun x y => (F1 x).put (by omega)
  have F3 : ∀ x y z, Fr (((A.put (some q) x).put (some (q + 1)) y).put (some (q + 2)) z) N n := fun x y z => (F2 x y).put (by omega)
  have F4 : ∀ x y z t, Fr ((((A.put (some q) x).put (some (q + 1)) y).put (some (q + 2)) z).put (some (q + 3)) t) N n := fun x y z t => (F3 x y z).put (by omega)
  have k1 : ∀ x, ∀ t : Nat, t < q → (A.put (some q) x).eval (.tmp t) = A.eval (.tmp t) := fun x t ht => put_other (by omega)
  have k2 : ∀ x y, ∀ t : Nat, t < q → ((A.put (some q) x).put (some (q + 1)) y).eval (.tmp t) = A.eval (.tmp t) := fun x y t ht => (put_other (by omega)).trans (k1 x t ht)
  have k3 : ∀ x y z, ∀ t : Nat, t < q → (((A.put (some q) x).put (some (q + 1)) y).put (some (q + 2)) z).eval (.tmp t) = A.eval (.tmp t) := fun x y z t ht => (put_other (by omega)).trans (k2 x y t ht)
  have k4 : ∀ x y z r, ∀ t : Nat, t < q → ((((A.put (some q) x).put (some (q + 1)) y).put (some (q + 2)) z).put (some (q + 3)) r).eval (.tmp t) = A.eval (.tmp t) := fun x y z r t ht => (put_other (by omega)).trans (k3 x y z t ht)
  refine st_yes (hw _ hs (fun _ _ => rfl) _ e1.2.2) e1.1 (ex_field e1.2.1 hj F.x) ?_
  refine st_yes (hw _ (F1 _).size (k1 _) _ e2.2.2) e2.1 (ex_load e2.2.1 hT (put_same (by omega)) cu) ?_
  refine st_yes (hw _ (F2 _ _).size (k2 _ _) _ e3.2.2) e3.1 (ex_field e3.2.1 hj (F2 _ _).y) ?_
  refine st_yes (hw _ (F3 _ _ _).size (k3 _ _ _) _ e4.2.2) e4.1 (ex_load e4.2.1 hT (put_same (by simp only [put_size]; omega)) cv) ?_
  exact h _ (F4 _ _ _ _) ((put_other (by omega)).trans ((put_other (by omega)).trans (put_same (by simp only [put_size]; omega)))) (put_same (by simp only [put_size]; omega)) (k4 _ _ _ _)

set_option maxHeartbeats 6400000 in
set_option maxRecDepth 100000 in
theorem rsame_any (a b : M) (w : World) (ha : a.In w) (hb : b.In w) :
    Calls Tryz.prog 16 #[.agg a.cells, .agg b.cells] w fun e w' => e = .returned (.bool (M.same a b)) ∧ Below w.heap.size w w' := by
  have PD := Lib.hid (fun W (h : S2 w a b W) => heldP (S2 w a b) S2.keep (rdests_any a.la b.la a.lc b.lc a.ll b.ll W h.2.2.1.d h.2.2.2.1.d h.2.2.1.dl h.2.2.2.1.dl) h)
  have PS := Lib.hid (fun W (h : S2 w a b W) => heldP (S2 w a b) S2.keep (rsubs_any a.sa b.sa a.sc b.sc a.sl b.sl W h.2.2.1.s h.2.2.2.1.s h.2.2.1.sl h.2.2.2.1.sl) h)
  have H1 : Hid (M.same a b = (!(((((((((((a.kind != b.kind) || (a.cmd != b.cmd)) || (a.ver != b.ver)) || (!(a.auth.toList == b.auth.toList))) || (a.family != b.family)) || (a.ae != b.ae)) || (!(a.pfx.toList == b.pfx.toList))) || (a.plen != b.plen)) || (a.tag != b.tag)) || (!(a.next.toList == b.next.toList))) || (a.metric != b.metric)) && (!((((((((((((!(a.id.toList == b.id.toList)) || (a.seq != b.seq)) || (a.seq2 != b.seq2)) || (a.interval != b.interval)) || (a.flags != b.flags)) || (a.hops != b.hops)) || (a.nonce != b.nonce)) || (a.cost != b.cost)) || (!(a.addr.toList == b.addr.toList))) || (!(a.orig.toList == b.orig.toList))) || (a.typ != b.typ)) || (!(a.data.toList == b.data.toList))) && (decide (a.ll = b.ll) && decide (a.sl = b.sl))))) := Lib.hid (by simp [M.same, M.flatE, Bool.and_assoc, bne, Bool.not_or])
  obtain ⟨ba, bb, bel⟩ := SameP.start w a b
  have h0 : S2 w a b ((w.alloc (.cells a.cells 29)).alloc (.cells b.cells 29)) := ⟨ba, bb, ha.below (balloc (balloc (Below.refl _ _) _) _), hb.below (balloc (balloc (Below.refl _ _) _) _), bel⟩
  clear ba bb bel ha hb
  go_enter Tryz.func16, Tryz.ntmps16
  go_upto_region 1 with fail
  rename_i Q1 K1 hK1 K2 hK2
  generalize (w.alloc (.cells a.cells 29)).alloc (.cells b.cells 29) = V at *
  have C := h0.1.cs
  have D := h0.2.1.cs
  refine with_frame (n := w.heap.size) (fun A F => ?_) ⟨rfl, rfl, rfl, rfl⟩
  refine wp_region_lit ?_
  refine first_group (p := 5) (N := 174) F (by decide) (by decide) ⟨rfl, rfl, rfl⟩ ⟨rfl, rfl, rfl⟩ ⟨rfl, rfl, rfl⟩ ⟨rfl, rfl, rfl⟩ ⟨rfl, rfl, rfl⟩ (by decide) (agg_int _) C.c0 D.c0 (ni a.kind b.kind _).1 (ni a.kind b.kind _).2 (fun A F hp => ?_)
  refine or_group (p := 9) (g := 5) (N := 174) F hp (by decide) (by decide) ⟨rfl, rfl, rfl⟩ ⟨rfl, rfl, rfl⟩ ⟨rfl, rfl, rfl⟩ ⟨rfl, rfl, rfl⟩ ⟨rfl, rfl, rfl⟩ ⟨rfl, rfl, rfl⟩ ⟨rfl, rfl, rfl⟩ rfl (by decide) (agg_int _) C.c1 D.c1 (ni a.cmd b.cmd _).1 (ni a.cmd b.cmd _).2 (fun A F hp => ?_)
  refine or_group (p := 16) (g := 12) (N := 174) F hp (by decide) (by decide) ⟨rfl, rfl, rfl⟩ ⟨rfl, rfl, rfl⟩ ⟨rfl, rfl, rfl⟩ ⟨rfl, rfl, rfl⟩ ⟨rfl, rfl, rfl⟩ ⟨rfl, rfl, rfl⟩ ⟨rfl, rfl, rfl⟩ rfl (by decide) (agg_int _) C.c2 D.c2 (ni a.ver b.ver _).1 (ni a.ver b.ver _).2 (fun A F hp => ?_)
  refine or_group (p := 23) (g := 19) (N := 174) F hp (by decide) (by decide) ⟨rfl, rfl, rfl⟩ ⟨rfl, rfl, rfl⟩ ⟨rfl, rfl, rfl⟩ ⟨rfl, rfl, rfl⟩ ⟨rfl, rfl, rfl⟩ ⟨rfl, rfl, rfl⟩ ⟨rfl, rfl, rfl⟩ rfl (by decide) (agg_str _) C.c3 D.c3 (ns a.auth b.auth _).1 (ns a.auth b.auth _).2 (fun A F hp => ?_)
  refine or_group (p := 30) (g := 26) (N := 174) F hp (by decide) (by decide) ⟨rfl, rfl, rfl⟩ ⟨rfl, rfl, rfl⟩ ⟨rfl, rfl, rfl⟩ ⟨rfl, rfl, rfl⟩ ⟨rfl, rfl, rfl⟩ ⟨rfl, rfl, rfl⟩ ⟨rfl, rfl, rfl⟩ rfl (by decide) (agg_int _) C.c4 D.c4 (ni a.family b.family _).1 (ni a.family b.family _).2 (fun A F hp => ?_)
  refine or_group (p := 37) (g := 33) (N := 174) F hp (by decide) (by decide) ⟨rfl, rfl, rfl⟩ ⟨rfl, rfl, rfl⟩ ⟨rfl, rfl, rfl⟩ ⟨rfl, rfl, rfl⟩ ⟨rfl, rfl, rfl⟩ ⟨rfl, rfl, rfl⟩ ⟨rfl, rfl, rfl⟩ rfl (by decide) (agg_int _) C.c5 D.c5 (ni a.ae b.ae _).1 (ni a.ae b.ae _).2 (fun A F hp => ?_)
  refine or_group (p := 44) (g := 40) (N := 174) F hp (by decide) (by decide) ⟨rfl, rfl, rfl⟩ ⟨rfl, rfl, rfl⟩ ⟨rfl, rfl, rfl⟩ ⟨rfl, rfl, rfl⟩ ⟨rfl, rfl, rfl⟩ ⟨rfl, rfl, rfl⟩ ⟨rfl, rfl, rfl⟩ rfl (by decide) (agg_str _) C.c6 D.c6 (ns a.pfx b.pfx _).1 (ns a.pfx b.pfx _).2 (fun A F hp => ?_)
  refine or_group (p := 51) (g := 47) (N := 174) F hp (by decide) (by decide) ⟨rfl, rfl, rfl⟩ ⟨rfl, rfl, rfl⟩ ⟨rfl, rfl, rfl⟩ ⟨rfl, rfl, rfl⟩ ⟨rfl, rfl, rfl⟩ ⟨rfl, rfl, rfl⟩ ⟨rfl, rfl, rfl⟩ rfl (by decide) (agg_int _) C.c7 D.c7 (ni a.plen b.plen _).1 (ni a.plen b.plen _).2 (fun A F hp => ?_)
  refine or_group (p := 58) (g := 54) (N := 174) F hp (by decide) (by decide) ⟨rfl, rfl, rfl⟩ ⟨rfl, rfl, rfl⟩ ⟨rfl, rfl, rfl⟩ ⟨rfl, rfl, rfl⟩ ⟨rfl, rfl, rfl⟩ ⟨rfl, rfl, rfl⟩ ⟨rfl, rfl, rfl⟩ rfl (by decide) (agg_int _) C.c8 D.c8 (ni a.tag b.tag _).1 (ni a.tag b.tag _).2 (fun A F hp => ?_)
  refine or_group (p := 65) (g := 61) (N := 174) F hp (by decide) (by decide) ⟨rfl, rfl, rfl⟩ ⟨rfl, rfl, rfl⟩ ⟨rfl, rfl, rfl⟩ ⟨rfl, rfl, rfl⟩ ⟨rfl, rfl, rfl⟩ ⟨rfl, rfl, rfl⟩ ⟨rfl, rfl, rfl⟩ rfl (by decide) (agg_str _) C.c9 D.c9 (ns a.next b.next _).1 (ns a.next b.next _).2 (fun A F hp => ?_)
  refine or_group (p := 72) (g := 68) (N := 174) F hp (by decide) (by decide) ⟨rfl, rfl, rfl⟩ ⟨rfl, rfl, rfl⟩ ⟨rfl, rfl, rfl⟩ ⟨rfl, rfl, rfl⟩ ⟨rfl, rfl, rfl⟩ ⟨rfl, rfl, rfl⟩ ⟨rfl, rfl, rfl⟩ rfl (by decide) (agg_int _) C.c10 D.c10 (ni a.metric b.metric _).1 (ni a.metric b.metric _).2 (fun A F hp => ?_)
  refine wpList_nil ?_
  refine hK2 _ _ ?_
  refine wp_cond_split hp (fun ht => ?_) (fun hf => ?_)
  · refine wp_seq (wp_region_lit (l := [_]) ?_)
    refine st_yes (v := .bool false) (wanted_none rfl) rfl rfl (wpList_nil ?_)
    refine wp_ret ?_
    exact ret_slot4 (v := false) rfl (F.put (d := 4) (by decide)) (put_same (by rw [F.size]; decide)) (by rw [H1.out, ht]; simp) h0.2.2.2.2
  refine wp_skip ?_
  refine hK1 _ _ ?_
  clear hK1 hK2 hp
  refine wp_seq (wp_seq (wp_region_lit ?_))
  refine first_group (p := 80) (N := 174) F (by decide) (by decide) ⟨rfl, rfl, rfl⟩ ⟨rfl, rfl, rfl⟩ ⟨rfl, rfl, rfl⟩ ⟨rfl, rfl, rfl⟩ ⟨rfl, rfl, rfl⟩ (by decide) (agg_str _) C.c11 D.c11 (ns a.id b.id _).1 (ns a.id b.id _).2 (fun A F hp => ?_)
  refine or_group (p := 84) (g := 5) (N := 174) F hp (by decide) (by decide) ⟨rfl, rfl, rfl⟩ ⟨rfl, rfl, rfl⟩ ⟨rfl, rfl, rfl⟩ ⟨rfl, rfl, rfl⟩ ⟨rfl, rfl, rfl⟩ ⟨rfl, rfl, rfl⟩ ⟨rfl, rfl, rfl⟩ rfl (by decide) (agg_int _) C.c12 D.c12 (ni a.seq b.seq _).1 (ni a.seq b.seq _).2 (fun A F hp => ?_)
  refine or_group (p := 91) (g := 12) (N := 174) F hp (by decide) (by decide) ⟨rfl, rfl, rfl⟩ ⟨rfl, rfl, rfl⟩ ⟨rfl, rfl, rfl⟩ ⟨rfl, rfl, rfl⟩ ⟨rfl, rfl, rfl⟩ ⟨rfl, rfl, rfl⟩ ⟨rfl, rfl, rfl⟩ rfl (by decide) (agg_int _) C.c13 D.c13 (ni a.seq2 b.seq2 _).1 (ni a.seq2 b.seq2 _).2 (fun A F hp => ?_)
  refine or_group (p := 98) (g := 19) (N := 174) F hp (by decide) (by decide) ⟨rfl, rfl, rfl⟩ ⟨rfl, rfl, rfl⟩ ⟨rfl, rfl, rfl⟩ ⟨rfl, rfl, rfl⟩ ⟨rfl, rfl, rfl⟩ ⟨rfl, rfl, rfl⟩ ⟨rfl, rfl, rfl⟩ rfl (by decide) (agg_int _) C.c14 D.c14 (ni a.interval b.interval _).1 (ni a.interval b.interval _).2 (fun A F hp => ?_)
  refine or_group (p := 105) (g := 26) (N := 174) F hp (by decide) (by decide) ⟨rfl, rfl, rfl⟩ ⟨rfl, rfl, rfl⟩ ⟨rfl, rfl, rfl⟩ ⟨rfl, rfl, rfl⟩ ⟨rfl, rfl, rfl⟩ ⟨rfl, rfl, rfl⟩ ⟨rfl, rfl, rfl⟩ rfl (by decide) (agg_int _) C.c15 D.c15 (ni a.flags b.flags _).1 (ni a.flags b.flags _).2 (fun A F hp => ?_)
  refine or_group (p := 112) (g := 33) (N := 174) F hp (by decide) (by decide) ⟨rfl, rfl, rfl⟩ ⟨rfl, rfl, rfl⟩ ⟨rfl, rfl, rfl⟩ ⟨rfl, rfl, rfl⟩ ⟨rfl, rfl, rfl⟩ ⟨rfl, rfl, rfl⟩ ⟨rfl, rfl, rfl⟩ rfl (by decide) (agg_int _) C.c16 D.c16 (ni a.hops b.hops _).1 (ni a.hops b.hops _).2 (fun A F hp => ?_)
  refine or_group (p := 119) (g := 40) (N := 174) F hp (by decide) (by decide) ⟨rfl, rfl, rfl⟩ ⟨rfl, rfl, rfl⟩ ⟨rfl, rfl, rfl⟩ ⟨rfl, rfl, rfl⟩ ⟨rfl, rfl, rfl⟩ ⟨rfl, rfl, rfl⟩ ⟨rfl, rfl, rfl⟩ rfl (by decide) (agg_int _) C.c17 D.c17 (ni a.nonce b.nonce _).1 (ni a.nonce b.nonce _).2 (fun A F hp => ?_)
  refine or_group (p := 126) (g := 47) (N := 174) F hp (by decide) (by decide) ⟨rfl, rfl, rfl⟩ ⟨rfl, rfl, rfl⟩ ⟨rfl, rfl, rfl⟩ ⟨rfl, rfl, rfl⟩ ⟨rfl, rfl, rfl⟩ ⟨rfl, rfl, rfl⟩ ⟨rfl, rfl, rfl⟩ rfl (by decide) (agg_int _) C.c18 D.c18 (ni a.cost b.cost _).1 (ni a.cost b.cost _).2 (fun A F hp => ?_)
  refine or_group (p := 133) (g := 54) (N := 174) F hp (by decide) (by decide) ⟨rfl, rfl, rfl⟩ ⟨rfl, rfl, rfl⟩ ⟨rfl, rfl, rfl⟩ ⟨rfl, rfl, rfl⟩ ⟨rfl, rfl, rfl⟩ ⟨rfl, rfl, rfl⟩ ⟨rfl, rfl, rfl⟩ rfl (by decide) (agg_str _) C.c19 D.c19 (ns a.addr b.addr _).1 (ns a.addr b.addr _).2 (fun A F hp => ?_)
  refine or_group (p := 140) (g := 61) (N := 174) F hp (by decide) (by decide) ⟨rfl, rfl, rfl⟩ ⟨rfl, rfl, rfl⟩ ⟨rfl, rfl, rfl⟩ ⟨rfl, rfl, rfl⟩ ⟨rfl, rfl, rfl⟩ ⟨rfl, rfl, rfl⟩ ⟨rfl, rfl, rfl⟩ rfl (by decide) (agg_str _) C.c20 D.c20 (ns a.orig b.orig _).1 (ns a.orig b.orig _).2 (fun A F hp => ?_)
  refine or_group (p := 147) (g := 68) (N := 174) F hp (by decide) (by decide) ⟨rfl, rfl, rfl⟩ ⟨rfl, rfl, rfl⟩ ⟨rfl, rfl, rfl⟩ ⟨rfl, rfl, rfl⟩ ⟨rfl, rfl, rfl⟩ ⟨rfl, rfl, rfl⟩ ⟨rfl, rfl, rfl⟩ rfl (by decide) (agg_int _) C.c22 D.c22 (ni a.typ b.typ _).1 (ni a.typ b.typ _).2 (fun A F hp => ?_)
  refine or_group (p := 154) (g := 75) (N := 174) F hp (by decide) (by decide) ⟨rfl, rfl, rfl⟩ ⟨rfl, rfl, rfl⟩ ⟨rfl, rfl, rfl⟩ ⟨rfl, rfl, rfl⟩ ⟨rfl, rfl, rfl⟩ ⟨rfl, rfl, rfl⟩ ⟨rfl, rfl, rfl⟩ rfl (by decide) (agg_str _) C.c23 D.c23 (ns a.data b.data _).1 (ns a.data b.data _).2 (fun A F hp => ?_)
  refine wpList_nil ?_
  refine wp_cond_split hp (fun ht => ?_) (fun hf2 => ?_)
  · refine wp_seq (wp_region_lit (l := [_]) ?_)
    refine st_yes (v := .bool false) (wanted_none rfl) rfl rfl (wpList_nil ?_)
    refine wp_ret ?_
    exact ret_slot4 (v := false) rfl (F.put (d := 4) (by decide)) (put_same (by rw [F.size]; decide)) (by rw [H1.out, ht]; simp) h0.2.2.2.2
  refine wp_skip ?_
  have H2 : M.same a b = (decide (a.ll = b.ll) && decide (a.sl = b.sl)) := by rw [H1.out, hf, hf2]; simp
  clear hp H1 hf hf2
  refine wp_seq (wp_region_lit (l := [_, _, _, _, _, _, _, _, _, _, _, _, _]) ?_)
  refine load_two (q := 162) (N := 174) (gd := none) F (by decide) (by decide) ⟨rfl, rfl, rfl⟩ ⟨rfl, rfl, rfl⟩ ⟨rfl, rfl, rfl⟩ ⟨rfl, rfl, rfl⟩ (fun _ _ _ o ho => wanted_none ho) (by decide) (agg_sl _).1 C.c21 D.c21 (fun A F e1 e2 _ => ?_)
  refine st_call (d := 166) (S := S2 w a b) (wanted_none rfl) rfl rfl (vs := #[.slice a.la a.ll.length a.lc, .slice b.la b.ll.length b.lc]) (by simp only [List.map_toArray, List.map_cons, List.map_nil, e1, e2]) (by go_simp) (PD.out _ h0) (fun W hS => ?_)
  have C := hS.1.cs
  have D := hS.2.1.cs
  have k1 : (A.put (some 166) (.bool (decide (a.ll = b.ll)))).eval (.tmp 166) = .bool (decide (a.ll = b.ll)) := put_same (by rw [F.size]; decide)
  have F1 := F.put (d := 166) (v := .bool (decide (a.ll = b.ll))) (by decide)
  clear F e1 e2
  generalize A.put (some 166) (.bool (decide (a.ll = b.ll))) = B at k1 F1 ⊢
  generalize decide (a.ll = b.ll) = r at k1 H2
  refine st_yes (v := .bool r) (wanted_none rfl) rfl (by rw [BigFrame.run_move _ rfl, k1]) ?_
  have k2 : (B.put (some 167) (.bool r)).eval (.tmp 167) = .bool r := put_same (by rw [F1.size]; decide)
  have F2 := F1.put (d := 167) (v := .bool r) (by decide)
  clear F1 k1
  generalize B.put (some 167) (.bool r) = B at k2 F2 ⊢
  cases r
  · refine st_no (by rw [wanted_some rfl rfl (by rw [F2.size]; decide) k2]; rfl) rfl ?_
    have F3 := F2.put (d := 168) (v := undef) (by decide)
    have k3 : (B.put (some 168) undef).eval (.tmp 167) = .bool false := (put_other (by decide)).trans k2
    generalize B.put (some 168) undef = B at k3 F3 ⊢
    refine st_no (by rw [wanted_some rfl rfl (by rw [F3.size]; decide) k3]; rfl) rfl ?_
    have F4 := F3.put (d := 169) (v := undef) (by decide)
    have k4 : (B.put (some 169) undef).eval (.tmp 167) = .bool false := (put_other (by decide)).trans k3
    generalize B.put (some 169) undef = B at k4 F4 ⊢
    refine st_no (by rw [wanted_some rfl rfl (by rw [F4.size]; decide) k4]; rfl) rfl ?_
    have F5 := F4.put (d := 170) (v := undef) (by decide)
    have k5 : (B.put (some 170) undef).eval (.tmp 167) = .bool false := (put_other (by decide)).trans k4
    generalize B.put (some 170) undef = B at k5 F5 ⊢
    refine st_no (by rw [wanted_some rfl rfl (by rw [F5.size]; decide) k5]; rfl) rfl ?_
    have F6 := F5.put (d := 171) (v := undef) (by decide)
    have k6 : (B.put (some 171) undef).eval (.tmp 167) = .bool false := (put_other (by decide)).trans k5
    generalize B.put (some 171) undef = B at k6 F6 ⊢
    refine st_no (by rw [wanted_some rfl rfl (by rw [F6.size]; decide) k6]; rfl) rfl ?_
    have F7 := F6.put (d := 172) (v := undef) (by decide)
    have k7 : (B.put (some 172) undef).eval (.tmp 167) = .bool false := (put_other (by decide)).trans k6
    generalize B.put (some 172) undef = B at k7 F7 ⊢
    refine st_yes (v := .bool false) (wanted_none rfl) rfl ((ex_pick rfl k7).trans (by rw [if_neg (by decide)]; rfl)) ?_
    have k8 : (B.put (some 173) (.bool false)).eval (.tmp 173) = .bool false := put_same (by rw [F7.size]; decide)
    have F8 := F7.put (d := 173) (v := .bool false) (by decide)
    generalize B.put (some 173) (.bool false) = B at k8 F8 ⊢
    refine st_yes (v := .bool false) (wanted_none rfl) rfl (by rw [BigFrame.run_assign _ rfl, k8]) (wpList_nil ?_)
    refine wp_ret ?_
    exact ret_slot4 (v := false) rfl (F8.put (d := 4) (by decide)) (put_same (by rw [F8.size]; decide)) (by rw [H2]; simp) hS.2.2.2.2
  · refine load_two (q := 168) (N := 174) (gd := some (5, true)) F2 (by decide) (by decide) ⟨rfl, rfl, rfl⟩ ⟨rfl, rfl, rfl⟩ ⟨rfl, rfl, rfl⟩ ⟨rfl, rfl, rfl⟩ (fun B' hs hk o ho => by rw [wanted_some ho rfl (by rw [hs]; decide) ((hk 167 (by decide)).trans k2)]; rfl) (by decide) (agg_sl _).2 C.c24 D.c24 (fun A F e1 e2 hk => ?_)
    have k3 : A.eval (.tmp 167) = .bool true := (hk 167 (by decide)).trans k2
    refine st_call (d := 172) (S := S2 w a b) (by rw [wanted_some rfl rfl (by rw [F.size]; decide) k3]; rfl) rfl rfl (vs := #[.slice a.sa a.sl.length a.sc, .slice b.sa b.sl.length b.sc]) (by simp only [List.map_toArray, List.map_cons, List.map_nil, e1, e2]) (by go_simp) (PS.out _ hS) (fun W hS => ?_)
    have k4 : (A.put (some 172) (.bool (decide (a.sl = b.sl)))).eval (.tmp 172) = .bool (decide (a.sl = b.sl)) := put_same (by rw [F.size]; decide)
    have k5 : (A.put (some 172) (.bool (decide (a.sl = b.sl)))).eval (.tmp 167) = .bool true := (put_other (by decide)).trans k3
    have F3 := F.put (d := 172) (v := .bool (decide (a.sl = b.sl))) (by decide)
    generalize A.put (some 172) (.bool (decide (a.sl = b.sl))) = B at k4 k5 F3 ⊢
    refine st_yes (v := .bool (decide (a.sl = b.sl))) (wanted_none rfl) rfl ((ex_pick rfl k5).trans (by rw [if_pos rfl, k4])) ?_
    have k8 : (B.put (some 173) (.bool (decide (a.sl = b.sl)))).eval (.tmp 173) = .bool (decide (a.sl = b.sl)) := put_same (by rw [F3.size]; decide)
    have F8 := F3.put (d := 173) (v := .bool (decide (a.sl = b.sl))) (by decide)
    generalize B.put (some 173) (.bool (decide (a.sl = b.sl))) = B at k8 F8 ⊢
    refine st_yes (v := .bool (decide (a.sl = b.sl))) (wanted_none rfl) rfl (by rw [BigFrame.run_assign _ rfl, k8]) (wpList_nil ?_)
    refine wp_ret ?_
    exact ret_slot4 rfl (F8.put (d := 4) (by decide)) (put_same (by rw [F8.size]; decide)) (by rw [H2]; simp) hS.2.2.2.2
end Go.Proofs.YtfegdblaohhdoaaGreatDoor.RSame
namespace Go.Proofs.YtfegdblaohhdoaaGreatDoor.Own
open Go.ChangeShapes Go.WideShapes Go.ChangeAt Go.RowKit
open Go.Proofs.YtfegdblaohhdoaaGreatDoor.Ms
open Go.Proofs.YtfegdblaohhdoaaGreatDoor.Box
open Go.Proofs.YtfegdblaohhdoaaGreatDoor.Same
open Go.Proofs.YtfegdblaohhdoaaGreatDoor.Or
set_option linter.unusedVariables false
set_option maxRecDepth 100000

def k1 (m : M) : M := { M.zero with cmd := m.cmd, ver := m.ver, auth := m.auth, family := m.family, tag := m.tag, pfx := m.pfx, plen := m.plen, next := m.next, metric := m.metric }
def k2 (m : M) : M := { M.zero with cmd := m.cmd, tag := m.tag, pfx := m.pfx, plen := m.plen, next := m.next, metric := m.metric }
def k3 (m : M) : M := { M.zero with flags := m.flags, hops := m.hops, nonce := m.nonce, addr := m.addr, seq := m.seq, orig := m.orig, seq2 := m.seq2, sa := m.sa, sl := m.sl, sc := m.sc }
def k4 (m : M) : M := { M.zero with flags := m.flags, plen := m.plen, hops := m.hops, addr := m.addr, seq := m.seq, orig := m.orig, interval := m.interval, sa := m.sa, sl := m.sl, sc := m.sc }
def k5 (m : M) : M := { M.zero with flags := m.flags, la := m.la, ll := m.ll, lc := m.lc, sa := m.sa, sl := m.sl, sc := m.sc }
def k6 (m : M) : M := { M.zero with sa := m.sa, sl := m.sl, sc := m.sc }
def k7 (m : M) : M := { M.zero with nonce := m.nonce, interval := m.interval, sa := m.sa, sl := m.sl, sc := m.sc }
def k8 (m : M) : M := { M.zero with nonce := m.nonce, sa := m.sa, sl := m.sl, sc := m.sc }
def k9 (m : M) : M := { M.zero with flags := m.flags, seq := m.seq, interval := m.interval, sa := m.sa, sl := m.sl, sc := m.sc }
def k10 (m : M) : M := { M.zero with ae := m.ae, cost := m.cost, interval := m.interval, addr := m.addr, sa := m.sa, sl := m.sl, sc := m.sc }
def k11 (m : M) : M := { M.zero with ae := m.ae, pfx := m.pfx, plen := m.plen, interval := m.interval, seq := m.seq, metric := m.metric, id := m.id, next := m.next, sa := m.sa, sl := m.sl, sc := m.sc }
def k12 (m : M) : M := { M.zero with ae := m.ae, pfx := m.pfx, plen := m.plen, sa := m.sa, sl := m.sl, sc := m.sc }
def k13 (m : M) : M := { M.zero with ae := m.ae, pfx := m.pfx, plen := m.plen, seq := m.seq, hops := m.hops, id := m.id, sa := m.sa, sl := m.sl, sc := m.sc }
def k14 (m : M) : M := { M.zero with typ := m.typ, data := m.data }
/-- The fields that it has by its kind, without the kind. -/
def fieldsOf (m : M) : M := if m.kind = 1 then k1 m else if m.kind = 2 then k2 m else if m.kind = 3 then k3 m else if m.kind = 4 then k4 m else if m.kind = 5 then k5 m else if m.kind = 6 then k6 m else if m.kind = 7 then k7 m else if m.kind = 8 then k8 m else if m.kind = 9 then k9 m else if m.kind = 10 then k10 m else if m.kind = 11 then k11 m else if m.kind = 12 then k12 m else if m.kind = 13 then k13 m else if m.kind = 14 then k14 m else M.zero
def isKind (m : M) : Bool := decide (1 ≤ m.kind ∧ m.kind ≤ 14)
def ownM (m : M) : M := if isKind m then { fieldsOf m with kind := m.kind } else M.zero

theorem results_pair {fn : Func} {p q : Nat} {ty : TypeId} (h : fn.results = #[.cell p ty, .tmp q]) {P : Program} (tmps : Array Value) (w : World) (g : Nat) (u : Value)
    (hp : tmps.getD p undef = .pointer (some ⟨g, 0, none⟩)) (hl : (loadVar ty ⟨g, 0, none⟩).run P w = .ok u w) (v : Value) (hv : tmps.getD q undef = v) :
    (results fn tmps).run P w = .ok (.tuple #[u, v]) w := by
  have hp' : tmps[p]?.getD undef = .pointer (some ⟨g, 0, none⟩) := by simpa using hp
  have hv' : tmps[q]?.getD undef = v := by simpa using hv
  simp [results, h, hp', hv', asAddr, hl]
theorem loadVarM {w : World} {b : Nat} {m : M} (h : Bx w b m) : (loadVar 29 ⟨b, 0, none⟩).run Tryz.prog w = .ok (.agg m.cells) w :=
  run_loadVar_row w b 29 29 m.cells (0, 0) _ h Tryz.underlying29 rfl infoM

/-- Three variables: the message, and two without anything. -/
theorem start3 (w : World) (m : M) : Bx (((w.alloc (.cells m.cells 29)).alloc (.cells M.zero.cells 29)).alloc (.cells M.zero.cells 29)) w.heap.size m ∧
    Bx (((w.alloc (.cells m.cells 29)).alloc (.cells M.zero.cells 29)).alloc (.cells M.zero.cells 29)) (w.heap.size + 1) M.zero ∧
    Bx (((w.alloc (.cells m.cells 29)).alloc (.cells M.zero.cells 29)).alloc (.cells M.zero.cells 29)) (w.heap.size + 1 + 1) M.zero ∧
    Below w.heap.size w (((w.alloc (.cells m.cells 29)).alloc (.cells M.zero.cells 29)).alloc (.cells M.zero.cells 29)) := by
  refine ⟨((Bx.new w m).old _).old _, ?_, ?_, balloc (balloc (balloc (Below.refl _ _) _) _) _⟩
  · have := (Bx.new (w.alloc (.cells m.cells 29)) M.zero).old (.cells M.zero.cells 29)
    rwa [alloc_size] at this
  · have := Bx.new ((w.alloc (.cells m.cells 29)).alloc (.cells M.zero.cells 29)) M.zero
    rwa [alloc_size, alloc_size] at this

end Go.Proofs.YtfegdblaohhdoaaGreatDoor.Own
namespace Go.Proofs.YtfegdblaohhdoaaGreatDoor.Bits
set_option linter.unusedVariables false
set_option maxRecDepth 100000

/-- the i-th bit of a byte's number, the highest first -/
def bitN (b p : Nat) : Bool := b.testBit (7 - p)

theorem bitN_eq (b p : Nat) : bitN b p = (b / 2 ^ (7 - p) % 2 == 1) := by
  unfold bitN
  rw [Nat.testBit_eq_decide_div_mod_eq]
  by_cases h : b / 2 ^ (7 - p) % 2 = 1 <;> simp [h]

theorem getD_in (l : List UInt8) (k : Nat) (h : k < l.length) : l.getD k 0 = l[k] := by simp [List.getD, h]
theorem getD_out (l : List UInt8) (k : Nat) (h : l.length ≤ k) : l.getD k 0 = 0 := by simp [List.getD, h]

def bitL (l : List UInt8) (i : Nat) : Bool := bitN (l.getD (i / 8) 0).toNat (i % 8)

theorem bitL_out (l : List UInt8) (i : Nat) (h : 8 * l.length ≤ i) : bitL l i = false := by
  unfold bitL
  rw [getD_out _ _ (by omega)]
  simp [bitN]

/-- the first m bits of a byte's number -/
def mask (b m : Nat) : Nat := (b >>> (8 - m)) <<< (8 - m)

theorem mask_eq (b m : Nat) : mask b m = b / 2 ^ (8 - m) * 2 ^ (8 - m) := by
  unfold mask; rw [Nat.shiftLeft_eq, Nat.shiftRight_eq_div_pow]

theorem mask_le (b m : Nat) : mask b m ≤ b := by rw [mask_eq]; exact Nat.div_mul_le_self _ _

theorem mask_all (b m : Nat) (h : 8 ≤ m) : mask b m = b := by
  rw [mask_eq, show 8 - m = 0 by omega]; simp

theorem mask_none (b : Nat) (h : b < 256) : mask b 0 = 0 := by
  rw [mask_eq]; omega

theorem bitN_mask (b m p : Nat) (hp : p < 8) : bitN (mask b m) p = (decide (p < m) && bitN b p) := by
  unfold bitN mask
  rw [Nat.testBit_shiftLeft, Nat.testBit_shiftRight]
  by_cases h : p < m
  · have e : 7 - p ≥ 8 - m := by omega
    simp [h, e]
  · have e : ¬ 7 - p ≥ 8 - m := by omega
    simp [h, e]

theorem bitN_xor (a b p : Nat) : bitN (a ^^^ b) p = (bitN a p ^^ bitN b p) := by
  unfold bitN; rw [Nat.testBit_xor]

/-- a number below 256 is its eight bits -/
theorem byte_ext {a b : Nat} (ha : a < 256) (hb : b < 256) (h : ∀ p, p < 8 → bitN a p = bitN b p) : a = b := by
  apply Nat.eq_of_testBit_eq
  intro j
  by_cases hj : j < 8
  · have := h (7 - j) (by omega)
    unfold bitN at this
    rw [show 7 - (7 - j) = j by omega] at this
    exact this
  · rw [Nat.testBit_lt_two_pow (Nat.lt_of_lt_of_le ha (show 256 ≤ 2 ^ j from Nat.pow_le_pow_right (n := 2) (by decide) (show 8 ≤ j by omega))),
      Nat.testBit_lt_two_pow (Nat.lt_of_lt_of_le hb (show 256 ≤ 2 ^ j from Nat.pow_le_pow_right (n := 2) (by decide) (show 8 ≤ j by omega)))]

theorem list_ext {a b : List UInt8} (hl : a.length = b.length) (h : ∀ i, i < 8 * a.length → bitL a i = bitL b i) : a = b := by
  apply List.ext_getElem hl
  intro k h1 h2
  apply UInt8.toNat_inj.1
  apply byte_ext (UInt8.toNat_lt _) (UInt8.toNat_lt _)
  intro p hp
  have := h (8 * k + p) (by omega)
  unfold bitL at this
  rw [show (8 * k + p) / 8 = k by omega, show (8 * k + p) % 8 = p by omega] at this
  rw [getD_in _ _ h1, getD_in _ _ h2] at this
  exact this

/-- the first n bits as they are, all others 0 -/
def keepL (l : List UInt8) (n : Nat) : List UInt8 := l.mapIdx fun j b => UInt8.ofNat (mask b.toNat (n - 8 * j))

theorem keepL_length (l : List UInt8) (n : Nat) : (keepL l n).length = l.length := by simp [keepL]

theorem ofNat_mask (b : UInt8) (m : Nat) : (UInt8.ofNat (mask b.toNat m)).toNat = mask b.toNat m := by
  have h := mask_le b.toNat m
  have := UInt8.toNat_lt b
  rw [UInt8.toNat_ofNat']
  omega

theorem keepL_get (l : List UInt8) (n j : Nat) (h : j < (keepL l n).length) : ((keepL l n)[j]).toNat = mask (l[j]'(by simpa [keepL_length] using h)).toNat (n - 8 * j) := by
  simp only [keepL, List.getElem_mapIdx]
  exact ofNat_mask _ _

theorem bitL_keep (l : List UInt8) (n i : Nat) : bitL (keepL l n) i = (decide (i < n) && bitL l i) := by
  by_cases h : i < 8 * l.length
  · unfold bitL
    rw [getD_in _ _ (show i / 8 < (keepL l n).length by rw [keepL_length]; omega), getD_in _ _ (show i / 8 < l.length by omega), keepL_get, bitN_mask _ _ _ (by omega)]
    congr 1
    by_cases hn : i < n
    · simp [hn]; omega
    · simp [hn]; omega
  · rw [bitL_out _ _ (by rw [keepL_length]; omega), bitL_out l i (by omega)]; simp

theorem keepL_keep (l : List UInt8) (n m : Nat) : keepL (keepL l n) m = keepL l (min n m) := by
  apply list_ext (by simp [keepL_length])
  intro i _
  rw [bitL_keep, bitL_keep, bitL_keep, ← Bool.and_assoc]
  congr 1
  by_cases h1 : i < n <;> by_cases h2 : i < m <;> simp [h1, h2] <;> omega

theorem keepL_all (l : List UInt8) (n : Nat) (h : 8 * l.length ≤ n) : keepL l n = l := by
  apply list_ext (by simp [keepL_length])
  intro i hi
  rw [keepL_length] at hi
  rw [bitL_keep]
  simp; omega

theorem keepL_none (l : List UInt8) : keepL l 0 = List.replicate l.length 0 := by
  apply List.ext_getElem (by simp [keepL_length])
  intro k h1 h2
  apply UInt8.toNat_inj.1
  rw [keepL_get, List.getElem_replicate]
  simp [mask_none _ (UInt8.toNat_lt _)]

theorem keepL_min (l : List UInt8) (n : Nat) : keepL l (min n (8 * l.length)) = keepL l n := by
  apply list_ext (by simp [keepL_length])
  intro i hi
  rw [keepL_length] at hi
  rw [bitL_keep, bitL_keep]
  congr 1
  by_cases h : i < n <;> simp [h] <;> omega

/-- how many hold, from 0 on, below m -/
def lead (p : Nat → Bool) : Nat → Nat
  | 0 => 0
  | m + 1 => if lead p m = m ∧ p m = true then m + 1 else lead p m

theorem lead_le (p : Nat → Bool) (m : Nat) : lead p m ≤ m := by
  induction m with
  | zero => exact Nat.le_refl _
  | succ m ih => unfold lead; split <;> omega

theorem lead_below (p : Nat → Bool) (m i : Nat) (h : i < lead p m) : p i = true := by
  induction m with
  | zero => simp [lead] at h
  | succ m ih =>
    unfold lead at h
    split at h
    · rename_i hc
      by_cases e : i = m
      · rw [e]; exact hc.2
      · exact ih (by omega)
    · exact ih h

theorem lead_at (p : Nat → Bool) (m : Nat) (h : lead p m < m) : p (lead p m) = false := by
  induction m with
  | zero => omega
  | succ m ih =>
    have hle := lead_le p m
    unfold lead at h ⊢
    split at h
    · omega
    · rename_i hc
      rw [if_neg hc]
      by_cases e : lead p m = m
      · rw [e]
        by_cases hp : p m = true
        · exact absurd ⟨e, hp⟩ hc
        · simpa using hp
      · exact ih (by omega)

theorem lead_eq (p : Nat → Bool) (m k : Nat) (hk : k ≤ m) (h1 : ∀ i, i < k → p i = true) (h2 : k < m → p k = false) : lead p m = k := by
  have hle := lead_le p m
  by_cases h : lead p m < k
  · have := lead_at p m (by omega)
    rw [h1 _ h] at this
    cases this
  · by_cases h' : k < lead p m
    · have := lead_below p m k h'
      rw [h2 (by omega)] at this
      cases this
    · omega

/-- how many bits both have alike -/
def alikeN (a b : List UInt8) : Nat := lead (fun i => bitL a i == bitL b i) (8 * min a.length b.length)

/-- how many bits of a byte's number are 0 ahead of the first 1 -/
def noughts (b : Nat) : Nat := lead (fun p => !bitN b p) 8

theorem noughts_eq (b k : Nat) (hk : k ≤ 8) (h1 : b < 2 ^ (8 - k)) (h2 : k < 8 → 2 ^ (7 - k) ≤ b) : noughts b = k := by
  apply lead_eq _ _ _ hk
  · intro p hp
    have : b.testBit (7 - p) = false := Nat.testBit_lt_two_pow (Nat.lt_of_lt_of_le h1 (Nat.pow_le_pow_right (by decide) (by omega)))
    simp [bitN, this]
  · intro h
    have h2 := h2 h
    have e : b / 2 ^ (7 - k) = 1 := by
      have hp : 0 < 2 ^ (7 - k) := Nat.two_pow_pos _
      have hh : b < 2 * 2 ^ (7 - k) := by
        have : 2 ^ (8 - k) = 2 * 2 ^ (7 - k) := by rw [show 8 - k = (7 - k) + 1 by omega, Nat.pow_succ]; omega
        omega
      have := (Nat.div_lt_iff_lt_mul hp).2 hh
      have := (Nat.le_div_iff_mul_le hp).2 (show 1 * 2 ^ (7 - k) ≤ b by omega)
      omega
    show (!bitN b k) = false
    rw [bitN_eq, e]; rfl

theorem noughts_below (b p : Nat) (h : p < noughts b) : bitN b p = false := by
  have := lead_below (fun p => !bitN b p) 8 p h
  simpa using this
theorem noughts_at (b : Nat) (h : noughts b < 8) : bitN b (noughts b) = true := by
  have : (!bitN b (noughts b)) = false := lead_at (fun p => !bitN b p) 8 h
  simpa using this
theorem noughts_le (b : Nat) : noughts b ≤ 8 := lead_le _ _

theorem xor_noughts (a b : Nat) (ha : a < 256) (hb : b < 256) (hne : a ≠ b) :
    ∃ z, noughts (a ^^^ b) = z ∧ z < 8 ∧ (∀ p, p < z → bitN a p = bitN b p) ∧ bitN a z ≠ bitN b z := by
  have hsame : ∀ p, p < noughts (a ^^^ b) → bitN a p = bitN b p := by
    intro p hp
    have := noughts_below _ p hp
    rw [bitN_xor] at this
    revert this
    cases bitN a p <;> cases bitN b p <;> simp
  have hz : noughts (a ^^^ b) < 8 := by
    have hle := noughts_le (a ^^^ b)
    by_cases h : noughts (a ^^^ b) < 8
    · exact h
    · exact absurd (byte_ext ha hb fun p hp => hsame p (by omega)) hne
  refine ⟨_, rfl, hz, hsame, ?_⟩
  have := noughts_at _ hz
  rw [bitN_xor] at this
  revert this
  cases bitN a (noughts (a ^^^ b)) <;> cases bitN b (noughts (a ^^^ b)) <;> simp

theorem take_get (a b : List UInt8) (i k : Nat) (h : a.take i = b.take i) (hk : k < i) : a.getD k 0 = b.getD k 0 := by
  have h1 : (a.take i)[k]? = (b.take i)[k]? := by rw [h]
  rw [List.getElem?_take_of_lt hk, List.getElem?_take_of_lt hk] at h1
  simp [List.getD, h1]

/-- bytes that are the same up to the i-th, which isn't -/
theorem alike_differ (a b : List UInt8) (i : Nat) (ha : i < a.length) (hb : i < b.length) (hsame : a.take i = b.take i) (hne : a[i].toNat ≠ b[i].toNat) :
    alikeN a b = 8 * i + noughts (a[i].toNat ^^^ b[i].toNat) := by
  obtain ⟨z, hz, hz8, hzs, hzd⟩ := xor_noughts a[i].toNat b[i].toNat (UInt8.toNat_lt _) (UInt8.toNat_lt _) hne
  rw [hz]
  unfold alikeN
  apply lead_eq
  · have : i + 1 ≤ min a.length b.length := by omega
    omega
  · intro j hj
    simp only [bitL]
    by_cases hji : j / 8 < i
    · rw [take_get a b i (j / 8) hsame hji]
      simp
    · have e : j / 8 = i := by omega
      rw [e, getD_in _ _ ha, getD_in _ _ hb, hzs (j % 8) (by omega)]
      simp
  · intro _
    simp only [bitL]
    rw [show (8 * i + z) / 8 = i by omega, show (8 * i + z) % 8 = z by omega, getD_in _ _ ha, getD_in _ _ hb]
    simpa using hzd

/-- no byte differs up to the shorter one's end -/
theorem alike_full (a b : List UInt8) (h : a.take (min a.length b.length) = b.take (min a.length b.length)) : alikeN a b = 8 * min a.length b.length := by
  unfold alikeN
  apply lead_eq _ _ _ (Nat.le_refl _)
  · intro j hj
    simp only [bitL]
    rw [take_get a b _ (j / 8) h (by omega)]
    simp
  · intro h; omega

theorem alike_le (a b : List UInt8) : alikeN a b ≤ 8 * min a.length b.length := lead_le _ _
theorem alike_below (a b : List UInt8) (i : Nat) (h : i < alikeN a b) : bitL a i = bitL b i := by
  have := lead_below (fun i => bitL a i == bitL b i) _ i h
  simpa using this
/-- the row where one bit more is kept -/
theorem keepL_set (l : List UInt8) (i : Nat) (h : i < 8 * l.length) :
    keepL l (i + 1) = (keepL l i).set (i / 8) (UInt8.ofNat (mask (l[i / 8]'(by omega)).toNat (i % 8 + 1))) := by
  apply List.ext_getElem (by simp [keepL_length])
  intro k h1 h2
  rw [List.getElem_set]
  have hk : k < l.length := by simpa [keepL_length] using h1
  split
  · rename_i e
    subst e
    apply UInt8.toNat_inj.1
    rw [keepL_get, ofNat_mask]
    congr 1
    omega
  · rename_i e
    apply UInt8.toNat_inj.1
    rw [keepL_get, keepL_get]
    by_cases hlt : k < i / 8
    · rw [mask_all _ _ (by omega), mask_all _ _ (by omega)]
    · rw [show i + 1 - 8 * k = 0 by omega, show i - 8 * k = 0 by omega]

theorem mask_next (b p : Nat) (hb : b < 256) (hp : p < 8) : mask b (p + 1) = mask b p + (if bitN b p = true then 2 ^ (7 - p) else 0) := by
  rw [mask_eq, mask_eq, bitN_eq]
  have : p = 0 ∨ p = 1 ∨ p = 2 ∨ p = 3 ∨ p = 4 ∨ p = 5 ∨ p = 6 ∨ p = 7 := by omega
  rcases this with rfl | rfl | rfl | rfl | rfl | rfl | rfl | rfl <;> simp <;> split <;> omega

/-- the row that a copy and one masked byte make -/
theorem keepL_parts (l : List UInt8) (n : Nat) (h : n ≤ 8 * l.length) :
    keepL l n = if n % 8 = 0 then l.take (n / 8) ++ List.replicate (l.length - n / 8) 0
      else (l.take (n / 8) ++ List.replicate (l.length - n / 8) 0).set (n / 8) (UInt8.ofNat (mask (l.getD (n / 8) 0).toNat (n % 8))) := by
  have hbase : ∀ k (h1 : k < l.length), k ≠ n / 8 ∨ n % 8 = 0 → (keepL l n)[k]'(by simpa [keepL_length] using h1) = (l.take (n / 8) ++ List.replicate (l.length - n / 8) 0)[k]'(by simp; omega) := by
    intro k hk hc
    apply UInt8.toNat_inj.1
    rw [keepL_get, List.getElem_append]
    split
    · rename_i hlt
      simp at hlt
      rw [mask_all _ _ (by omega), List.getElem_take]
    · rename_i hlt
      simp at hlt
      rw [show n - 8 * k = 0 by omega, mask_none _ (UInt8.toNat_lt _), List.getElem_replicate]
      rfl
  have hlen : (l.take (n / 8) ++ List.replicate (l.length - n / 8) (0 : UInt8)).length = l.length := by simp; omega
  split
  · rename_i h0
    apply List.ext_getElem (by rw [hlen, keepL_length])
    intro k h1 h2
    rw [keepL_length] at h1
    exact hbase k h1 (.inr h0)
  · rename_i h0
    apply List.ext_getElem (by rw [List.length_set, hlen, keepL_length])
    intro k h1 h2
    rw [keepL_length] at h1
    rw [List.getElem_set]
    split
    · rename_i e
      subst e
      apply UInt8.toNat_inj.1
      rw [keepL_get, ofNat_mask, getD_in _ _ h1]
      congr 1
      omega
    · rename_i e
      exact hbase k h1 (.inl fun he => e he.symm)
end Go.Proofs.YtfegdblaohhdoaaGreatDoor.Bits
namespace Go.Proofs.YtfegdblaohhdoaaGreatDoor.Bits
open Go.ChangeShapes Go.WideShapes Go.ChangeAt Go.RowKit
set_option linter.unusedVariables false
set_option maxRecDepth 100000

theorem bool_eq {a b : Bool} (h : a = b) : Ending.returned (.bool a) = .returned (.bool b) := by rw [h]
theorem int_eq {k : IntKind} {a b : Int} (h : a = b) : Ending.returned (.int k a) = .returned (.int k b) := by rw [h]

/-- the i-th bit of a text, false if there is none -/
def bitZ (s : ByteArray) (i : Int) : Bool := decide (0 ≤ i) && bitL s.data.toList i.toNat

theorem len_list (s : ByteArray) : s.data.toList.length = s.size := by simp
theorem getD_byte (s : ByteArray) (k : Nat) (h : k < s.size) : s.data.toList.getD k 0 = s[k] := by
  rw [getD_in _ _ (by simpa using h)]; rfl

theorem bitZ_in (s : ByteArray) (i : Nat) (h : i < 8 * s.size) : bitZ s i = (s[i / 8].toNat / 2 ^ (7 - i % 8) % 2 == 1) := by
  unfold bitZ bitL
  rw [Int.toNat_natCast, getD_byte s (i / 8) (by omega), bitN_eq]
  simp
theorem bitZ_neg (s : ByteArray) (i : Int) (h : i < 0) : bitZ s i = false := by unfold bitZ; simp; omega
theorem bitZ_out (s : ByteArray) (i : Int) (h : 8 * (s.size : Int) ≤ i) : bitZ s i = false := by
  unfold bitZ; rw [bitL_out _ _ (by rw [len_list]; omega)]; simp

theorem and_one (b k : Nat) (hb : b < 256) : (bits BinOp.and IntKind.u8 ((b : Int) / 2 ^ k) 1 == 1) = (b / 2 ^ k % 2 == 1) := by
  have h1 : (b : Int) / 2 ^ k = ((b / 2 ^ k : Nat) : Int) := by simp
  have h2 : b / 2 ^ k ≤ b := Nat.div_le_self _ _
  rw [h1]
  generalize b / 2 ^ k = m at h2 ⊢
  rw [u8_and _ _ (by omega) (by omega) (by omega) (by omega)]
  rw [Int.toNat_natCast, show (1 : Int).toNat = 1 from rfl, Nat.and_one_is_mod]
  rw [Bool.eq_iff_iff]; simp; omega

theorem mod_two (b k : Nat) (hb : b < 256) : ((wrap64 (b : Int) / 2 ^ k).tmod 2 == 1) = (b / 2 ^ k % 2 == 1) := by
  rw [IntWalk.wrap64_in _ (by omega)]
  have h1 : (b : Int) / 2 ^ k = ((b / 2 ^ k : Nat) : Int) := by simp
  rw [h1]
  generalize b / 2 ^ k = m
  rw [Int.tmod_eq_emod_of_nonneg (by omega)]
  rw [Bool.eq_iff_iff]; simp; omega

set_option maxHeartbeats 400000 in
theorem count_any (s : ByteArray) (w : World) (hs : s.size ≤ 1048576) :
    Calls Tryz.prog 147 #[.string s] w fun e w' => e = .returned (.int .i64 (8 * (s.size : Nat) : Int)) ∧ w = w' := by
  go_enter Tryz.func147, Tryz.ntmps147
  go_wp2
  go_ret
  exact ⟨rfl, rfl⟩

set_option maxHeartbeats 400000 in
theorem rbit_any (s : ByteArray) (i : Int) (w : World) (hs : s.size ≤ 1048576) :
    Calls Tryz.prog 124 #[.string s, .int .i64 i] w fun e w' => e = .returned (.bool (bitZ s i)) ∧ w = w' := by
  by_cases h0 : i < 0
  · go_enter Tryz.func124, Tryz.ntmps124
    go_wp2
    go_ret
    exact ⟨bool_eq (bitZ_neg s i h0).symm, rfl⟩
  · by_cases h1 : i < 8 * (s.size : Int)
    · obtain ⟨i, rfl⟩ := Int.eq_ofNat_of_zero_le (show 0 ≤ i by omega)
      have h2 : i < 8 * s.size := by omega
      clear h0 h1
      go_enter Tryz.func124, Tryz.ntmps124
      go_wp2
      go_ret
      exact ⟨bool_eq (by rw [bitZ_in s i h2]; exact mod_two _ _ (UInt8.toNat_lt _)), rfl⟩
    · go_enter Tryz.func124, Tryz.ntmps124
      go_wp2
      go_ret
      exact ⟨bool_eq (bitZ_out s i (by omega)).symm, rfl⟩

/-- a number as one of a text's bits -/
def inZ (s : ByteArray) (n : Int) : Nat := min n.toNat (8 * s.size)

set_option maxHeartbeats 400000 in
theorem within_any (s : ByteArray) (n : Int) (w : World) (hs : s.size ≤ 1048576) :
    Calls Tryz.prog 144 #[.string s, .int .i64 n] w fun e w' => e = .returned (.int .i64 (inZ s n : Nat)) ∧ w = w' := by
  by_cases h0 : n < 0
  · go_enter Tryz.func144, Tryz.ntmps144
    go_wp2
    go_ret
    exact ⟨int_eq (by unfold inZ; omega), rfl⟩
  · by_cases h1 : 8 * (s.size : Int) < n
    · go_enter Tryz.func144, Tryz.ntmps144
      go_wp2_with fail
      refine (count_any _ _ hs).mono ?_
      rintro e w1 ⟨rfl, rfl⟩
      go_wp2_with fail
      refine (count_any _ _ hs).mono ?_
      rintro e w1 ⟨rfl, rfl⟩
      go_wp2
      go_ret
      exact ⟨int_eq (by unfold inZ; omega), rfl⟩
    · go_enter Tryz.func144, Tryz.ntmps144
      go_wp2_with fail
      refine (count_any _ _ hs).mono ?_
      rintro e w1 ⟨rfl, rfl⟩
      go_wp2
      go_ret
      exact ⟨int_eq (by unfold inZ; omega), rfl⟩

set_option maxHeartbeats 400000 in
theorem high_in (r : Nat) (w : World) (h : r ≤ 8) :
    Calls Tryz.prog 145 #[.int .i64 r] w fun e w' => e = .returned (.int .u8 ((255 * 2 ^ (8 - r) % 256 : Nat) : Int)) ∧ w = w' := by
  go_enter Tryz.func145, Tryz.ntmps145
  go_wp2
  go_ret
  exact ⟨int_eq (by simp), rfl⟩

set_option maxHeartbeats 400000 in
theorem ahead_any (b : Nat) (w : World) (h : b < 256) :
    Calls Tryz.prog 146 #[.int .u8 b] w fun e w' => e = .returned (.int .i64 (noughts b : Nat)) ∧ w = w' := by
  go_enter Tryz.func146, Tryz.ntmps146
  go_wp2
  go_loop [3] (fun i => ∃ k : Nat, k ≤ 8 ∧ i = .int .i64 k ∧ b < 2 ^ (8 - k)) (fun i => 8 - (intOf i).toNat)
  case atStart => exact ⟨0, by omega, rfl, by omega⟩
  case round =>
    obtain ⟨k, hk, rfl, hb⟩ := hrel
    have HB := Lib.hid hb
    clear hb
    by_cases hlt : k < 8
    · have hd : ((b : Int) / 2 ^ (7 - k) == 0) = decide (b < 2 ^ (7 - k)) := by
        have h1 : (b : Int) / 2 ^ (7 - k) = ((b / 2 ^ (7 - k) : Nat) : Int) := by simp
        rw [h1, Bool.eq_iff_iff]
        simp only [beq_iff_eq, decide_eq_true_eq]
        rw [show (((b / 2 ^ (7 - k) : Nat) : Int) = 0) ↔ b / 2 ^ (7 - k) = 0 by omega, Nat.div_eq_zero_iff_lt (Nat.two_pow_pos _)]
      by_cases hc : b < 2 ^ (7 - k)
      · rw [decide_eq_true hc] at hd
        have HC := Lib.hid hc
        clear hc
        go_wp2
        go_round
        case rel => exact ⟨k + 1, by omega, by go_num, by rw [show 8 - (k + 1) = 7 - k by omega]; exact HC.out⟩
        case measure => simp [intOf]; omega
      · rw [decide_eq_false hc] at hd
        have HN := Lib.hid (noughts_eq b k hk HB.out (fun _ => by omega))
        clear hc
        go_wp2
        go_ret
        exact ⟨int_eq (by rw [HN.out]), rfl⟩
    · obtain rfl : k = 8 := by omega
      have HN := Lib.hid (noughts_eq b 8 hk HB.out (fun h => by omega))
      go_wp2
      go_ret
      exact ⟨int_eq (by rw [HN.out]; rfl), rfl⟩

theorem xor_byte (a b : UInt8) : bits BinOp.xor IntKind.u8 (a.toNat : Int) (b.toNat : Int) = ((a.toNat ^^^ b.toNat : Nat) : Int) :=
  u8_xor_nat _ _ (UInt8.toNat_lt _) (UInt8.toNat_lt _)

theorem take_snoc (s : ByteArray) (k : Nat) (h : k < s.size) : s.data.toList.take (k + 1) = s.data.toList.take k ++ [s[k]] := by
  rw [List.take_succ_eq_append_getElem (by simpa using h)]; rfl

set_option maxHeartbeats 1600000 in
theorem alike_any (a b : ByteArray) (w : World) (ha : a.size ≤ 1048576) (hb : b.size ≤ 1048576) :
    Calls Tryz.prog 136 #[.string a, .string b] w fun e w' => e = .returned (.int .i64 (alikeN a.data.toList b.data.toList : Nat)) ∧ Below w.heap.size w w' := by
  go_enter Tryz.func136, Tryz.ntmps136
  go_wp2
  go_loopw [5] (fun i wr => ∃ k : Nat, k ≤ a.size ∧ k ≤ b.size ∧ i = .int .i64 k ∧ a.data.toList.take k = b.data.toList.take k ∧ Hid (Below w.heap.size w wr)) (fun i _ => a.size - (intOf i).toNat)
  case atStart => exact ⟨0, Nat.zero_le _, Nat.zero_le _, rfl, rfl, Lib.hid (Below.refl _ _)⟩
  case round =>
    obtain ⟨k, hka, hkb, rfl, ht, HB⟩ := hrel
    have HT := Lib.hid ht
    clear ht
    by_cases hla : k < a.size
    · by_cases hlb : k < b.size
      · have hta := Lib.hid (take_snoc a k hla)
        have htb := Lib.hid (take_snoc b k hlb)
        by_cases heq : a[k].toNat = b[k].toNat
        · have HN : Hid (a.data.toList.take (k + 1) = b.data.toList.take (k + 1)) := by
            have : a[k] = b[k] := UInt8.toNat_inj.1 heq
            exact Lib.hid (by rw [hta.out, htb.out, HT.out, this])
          clear hta htb
          have hne : ((a[k].toNat : Int) != (b[k].toNat : Int)) = false := by simp [heq]
          go_wp2
          go_quiet (fail)
          go_wp2
          go_roundw
          case rel => exact ⟨k + 1, hla, hlb, by go_num, HN.out, Lib.hid (below_drewN HB.out _)⟩
          case measure => simp [intOf]; omega
        · have HD := Lib.hid (alike_differ a.data.toList b.data.toList k (by simpa using hla) (by simpa using hlb) HT.out heq)
          have hx := xor_byte a[k] b[k]
          have hxl : a[k].toNat ^^^ b[k].toNat < 256 := Nat.xor_lt_two_pow (n := 8) (UInt8.toNat_lt _) (UInt8.toNat_lt _)
          have hne : ((a[k].toNat : Int) != (b[k].toNat : Int)) = true := by simp; omega
          have hn8 := noughts_le (a[k].toNat ^^^ b[k].toNat)
          have HA := Lib.hid (fun w : World => (ahead_any (a[k].toNat ^^^ b[k].toNat) w hxl).mono fun e w' (h : e = .returned (.int .i64 (noughts (a[k].toNat ^^^ b[k].toNat) : Nat)) ∧ w = w') => And.intro h.1 h.2.symm)
          clear hta htb heq hxl
          go_wp2
          go_quiet (fail)
          have HB2 := Lib.hid (below_drewN HB.out nq)
          generalize wr.drewN nq = wq at *
          go_wp2
          go_quiet (first | (go_at_call 146; refine Calls.quiet_of_same (HA.out _)))
          go_wp2
          go_ret
          exact ⟨int_eq (by rw [HD.out]; simp; rfl), below_drewN HB2.out _⟩
      · obtain rfl : k = b.size := by omega
        have HF := Lib.hid (alike_full a.data.toList b.data.toList (by rw [show min a.data.toList.length b.data.toList.length = b.size by simp; omega]; exact HT.out))
        by_cases hlt : a.size < b.size
        · omega
        · go_wp2_with fail
          refine (count_any _ _ hb).mono ?_
          rintro e w1 ⟨rfl, rfl⟩
          go_wp2
          go_ret
          exact ⟨int_eq (by rw [HF.out]; simp; omega), HB.out⟩
    · obtain rfl : k = a.size := by omega
      have HF := Lib.hid (alike_full a.data.toList b.data.toList (by rw [show min a.data.toList.length b.data.toList.length = a.size by simp; omega]; exact HT.out))
      by_cases hlt : a.size < b.size
      · go_wp2_with fail
        refine (count_any _ _ ha).mono ?_
        rintro e w1 ⟨rfl, rfl⟩
        go_wp2
        go_ret
        exact ⟨int_eq (by rw [HF.out]; simp; omega), HB.out⟩
      · go_wp2_with fail
        refine (count_any _ _ hb).mono ?_
        rintro e w1 ⟨rfl, rfl⟩
        go_wp2
        go_ret
        exact ⟨int_eq (by rw [HF.out]; simp; omega), HB.out⟩

theorem bitZ_nat (s : ByteArray) (i : Nat) : bitZ s i = bitL s.data.toList i := by unfold bitZ; simp

end Go.Proofs.YtfegdblaohhdoaaGreatDoor.Bits
